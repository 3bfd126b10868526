/- same's reading parts: slotsAt, slotsSame, Eqv. -/
import Derived.Test.YtimnhbndokfgnaaStLaw
import Derived.Laws.StructEq
namespace Go.Proofs.Ytimnhbndokfgnaa
open Go.RowKit

theorem row4 {W : World} {g : Nat} {a0 a1 a2 a3 : Value} {e : TypeId} (h : W.heap[g]? = some (.cells #[a0, a1, a2, a3] e (0, 0))) : W.cell? ⟨g, 0, none⟩ = some a0 ∧ W.cell? ⟨g, 1, none⟩ = some a1 ∧ W.cell? ⟨g, 2, none⟩ = some a2 ∧ W.cell? ⟨g, 3, none⟩ = some a3 :=
  ⟨cell_heap h 0, cell_heap h 1, cell_heap h 2, cell_heap h 3⟩

set_option maxRecDepth 100000 in
set_option maxHeartbeats 2000000 in
theorem slotsat_q (g : Nat) (R : Nat → Nat) (s : St) (a b : Int × Int) (i : Int) (w : World) (Q : Ending → World → Prop) (h : StW w g R s)
    (hQ : ∀ w', Below w.heap.size w w' → Q (.returned (.agg #[.int .i64 (s.get a i).1.1, .int .i64 (s.get a i).1.2, .int .i64 (s.get b i).1.1, .int .i64 (s.get b i).1.2])) w') :
    Calls Try.prog 81 #[.pointer (some ⟨g, 0, none⟩), .agg #[.int .i64 a.1, .int .i64 a.2], .agg #[.int .i64 b.1, .int .i64 b.2], .int .i64 i] w Q := by
  have HS := Lib.hid h
  have HQ := Lib.hid hQ
  have HB3 := Lib.hid (below3 w (.cells #[.int .i64 a.1, .int .i64 a.2] 35) (.cells #[.int .i64 b.1, .int .i64 b.2] 35) (.cells #[.int .i64 0, .int .i64 0, .int .i64 0, .int .i64 0] 126))
  obtain ⟨⟨n0, n1⟩, n2⟩ := @news3 w (.cells #[.int .i64 a.1, .int .i64 a.2] 35) (.cells #[.int .i64 b.1, .int .i64 b.2] 35) (.cells #[.int .i64 0, .int .i64 0, .int .i64 0, .int .i64 0] 126)
  have HN0 := Lib.hid n0
  have HN1 := Lib.hid n1
  have HN2 := Lib.hid n2
  obtain ⟨p0, p1, _⟩ := row2 n0
  clear h hQ n0 n1 n2
  go_enter Try.func81, Try.ntmps81
  go_wp2_with fail
  refine (stget_any g R s a i _ (HS.out.below HB3.out)).mono ?_
  rintro e w1 ⟨rfl, hb1⟩
  have HB4 := Lib.hid (HB3.out.trans (hb1.mono HB3.out.size))
  have HN1' := Lib.hid ((hb1.block (w.heap.size + 1) (by simp)).trans HN1.out)
  have HN2' := Lib.hid ((hb1.block (w.heap.size + 1 + 1) (by simp)).trans HN2.out)
  obtain ⟨q0, q1, _⟩ := row2 HN1'.out
  clear hb1 p0 p1
  unfold vV
  generalize s.get a i = x at *
  obtain ⟨⟨x0, x1⟩, x2⟩ := x
  go_upto_region 2 with fail
  have hb2 := below1 w1 (.cells #[.int .i64 x0, .int .i64 x1] 35)
  have HX := Lib.hid (box1 w1 #[.int .i64 x0, .int .i64 x1] 35)
  have HB5 := Lib.hid (HB4.out.trans (hb2.mono HB4.out.size))
  have HN1'' := Lib.hid ((hb2.block (w.heap.size + 1) (Array.getElem?_eq_some_iff.1 HN1'.out).1).trans HN1'.out)
  have HN2'' := Lib.hid ((hb2.block (w.heap.size + 1 + 1) (Array.getElem?_eq_some_iff.1 HN2'.out).1).trans HN2'.out)
  have HL1 : Hid (w.heap.size + 1 + 1 < w1.heap.size) := Lib.hid (Array.getElem?_eq_some_iff.1 HN2'.out).1
  obtain ⟨p0, p1, _⟩ := row2 HN1''.out
  clear hb2 q0 q1
  generalize w1.alloc (.cells #[.int .i64 x0, .int .i64 x1] 35) = w2 at *
  generalize w1.heap.size = xb at *
  go_wp2_with fail
  refine (stget_any g R s b i _ (HS.out.below HB5.out)).mono ?_
  rintro e w3 ⟨rfl, hb3⟩
  have HB6 := Lib.hid (HB5.out.trans (hb3.mono HB5.out.size))
  have HX3 := Lib.hid ((hb3.block xb (Array.getElem?_eq_some_iff.1 HX.out).1).trans HX.out)
  have HN3 := Lib.hid ((hb3.block (w.heap.size + 1 + 1) (Array.getElem?_eq_some_iff.1 HN2''.out).1).trans HN2''.out)
  clear hb3 p0 p1
  unfold vV
  generalize s.get b i = y at *
  obtain ⟨⟨y0, y1⟩, y2⟩ := y
  go_upto_region 3 with fail
  have hb4 := below1 w3 (.cells #[.int .i64 y0, .int .i64 y1] 35)
  have hy := box1 w3 #[.int .i64 y0, .int .i64 y1] 35
  have hx4 := (hb4.block xb (Array.getElem?_eq_some_iff.1 HX3.out).1).trans HX3.out
  have hn4 := (hb4.block (w.heap.size + 1 + 1) (Array.getElem?_eq_some_iff.1 HN3.out).1).trans HN3.out
  have HB7 := Lib.hid (HB6.out.trans (hb4.mono HB6.out.size))
  have HN4 := Lib.hid hn4
  have HL3 := Lib.hid (Array.getElem?_eq_some_iff.1 HN3.out).1
  have HLX := Lib.hid (Array.getElem?_eq_some_iff.1 HX3.out).1
  obtain ⟨a0, a1, _⟩ := row2 hx4
  obtain ⟨c0, c1, _⟩ := row2 hy
  have z0 := frozen_heap hn4 0
  have z1 := frozen_heap hn4 1
  have z2 := frozen_heap hn4 2
  have z3 := frozen_heap hn4 3
  obtain ⟨n0, n1, n2, n3⟩ := row4 hn4
  clear hb4 hy hx4 hn4
  generalize w3.alloc (.cells #[.int .i64 y0, .int .i64 y1] 35) = w4 at *
  have hne1 : xb ≠ w.heap.size + 1 + 1 := by have := HL1.out; omega
  have hne2 : w3.heap.size ≠ w.heap.size + 1 + 1 := by have := HL3.out; omega
  generalize w3.heap.size = yb at *
  generalize hpb : w.heap.size + 1 + 1 = pb at *
  go_wp2_with fail
  refine bodyPost_ret (v := .agg #[.int .i64 x0, .int .i64 x1, .int .i64 y0, .int .i64 y1]) (by simp [results, Try.results81, go_sem, n0, n1, n2, n3]) rfl (HQ.out _ ?_)
  have hwp : w.heap.size ≤ pb := by omega
  exact (((HB7.out.setCell hwp _).setCell hwp _).setCell hwp _).setCell hwp _
theorem slotsat_any (g : Nat) (R : Nat → Nat) (s : St) (a b : Int × Int) (i : Int) (w : World) (h : StW w g R s) :
    Calls Try.prog 81 #[.pointer (some ⟨g, 0, none⟩), .agg #[.int .i64 a.1, .int .i64 a.2], .agg #[.int .i64 b.1, .int .i64 b.2], .int .i64 i] w fun e w' =>
      e = .returned (.agg #[.int .i64 (s.get a i).1.1, .int .i64 (s.get a i).1.2, .int .i64 (s.get b i).1.1, .int .i64 (s.get b i).1.2]) ∧ Below w.heap.size w w' :=
  slotsat_q g R s a b i w _ h fun _ hb => ⟨rfl, hb⟩

theorem St.Ok.lenv {s : St} (h : s.Ok) (v : Int × Int) : s.len v ≤ 1048576 := by
  unfold St.len
  split
  · rename_i o ho
    exact h.slots (List.mem_of_getElem? (St.obj_some ho).2.2.2)
  · omega
/-- Have both the same slots? -/
def St.slotsEq (s : St) (a b : Int × Int) : Bool := decide (s.len a = s.len b ∧ ∀ i, i < s.len a → (s.get a ((i : Nat) : Int)).1 = (s.get b ((i : Nat) : Int)).1)
theorem slotsEq_len {s : St} {a b : Int × Int} (h : s.len a ≠ s.len b) : s.slotsEq a b = false := by unfold St.slotsEq; simp [h]
theorem slotsEq_at {s : St} {a b : Int × Int} {i : Nat} (hi : i < s.len a) (h : (s.get a ((i : Nat) : Int)).1 ≠ (s.get b ((i : Nat) : Int)).1) : s.slotsEq a b = false := by
  unfold St.slotsEq; rw [decide_eq_false_iff_not]; intro hn; exact h (hn.2 i hi)
theorem slotsEq_all {s : St} {a b : Int × Int} (hl : s.len a = s.len b) (h : ∀ i, i < s.len a → (s.get a ((i : Nat) : Int)).1 = (s.get b ((i : Nat) : Int)).1) : s.slotsEq a b = true := by
  unfold St.slotsEq; rw [decide_eq_true_iff]; exact ⟨hl, h⟩
theorem news2 {w : World} {a b : Obj} : ((w.alloc a).alloc b).heap[w.heap.size]? = some a ∧ ((w.alloc a).alloc b).heap[w.heap.size + 1]? = some b := by
  refine ⟨?_, ?_⟩
  · rw [Below.heap_alloc _ _ _ (by simp)]; exact heap_alloc_new w _
  · have := heap_alloc_new (w.alloc a) b
    simpa using this

set_option maxRecDepth 100000 in
set_option maxHeartbeats 4000000 in
theorem slotssame_any (g : Nat) (R : Nat → Nat) (s : St) (a b : Int × Int) (w : World) (h : StW w g R s) :
    Calls Try.prog 69 #[.pointer (some ⟨g, 0, none⟩), .agg #[.int .i64 a.1, .int .i64 a.2], .agg #[.int .i64 b.1, .int .i64 b.2]] w fun e w' => e = .returned (.bool (s.slotsEq a b)) ∧ Below w.heap.size w w' := by
  have HS := Lib.hid h
  have HB2 := Lib.hid (below2 w (.cells #[.int .i64 a.1, .int .i64 a.2] 35) (.cells #[.int .i64 b.1, .int .i64 b.2] 35))
  obtain ⟨n0, n1⟩ := @news2 w (.cells #[.int .i64 a.1, .int .i64 a.2] 35) (.cells #[.int .i64 b.1, .int .i64 b.2] 35)
  have HN0 := Lib.hid n0
  have HN1 := Lib.hid n1
  obtain ⟨p0, p1, _⟩ := row2 n0
  obtain ⟨q0, q1, _⟩ := row2 n1
  obtain ⟨la, hla⟩ : ∃ la, la = s.len a := ⟨_, rfl⟩
  obtain ⟨lb, hlb⟩ : ∃ lb, lb = s.len b := ⟨_, rfl⟩
  have HLA : Hid (∀ W, StW W g R s → Calls Try.prog 27 #[.pointer (some ⟨g, 0, none⟩), .agg #[.int .i64 a.1, .int .i64 a.2]] W fun e w' => e = .returned (.int .i64 ((la : Nat) : Int)) ∧ Below W.heap.size W w') := Lib.hid fun W hW => by rw [hla]; exact stlen_any g R s a W hW
  have HLB : Hid (∀ W, StW W g R s → Calls Try.prog 27 #[.pointer (some ⟨g, 0, none⟩), .agg #[.int .i64 b.1, .int .i64 b.2]] W fun e w' => e = .returned (.int .i64 ((lb : Nat) : Int)) ∧ Below W.heap.size W w') := Lib.hid fun W hW => by rw [hlb]; exact stlen_any g R s b W hW
  have hlm : la ≤ 1048576 := by rw [hla]; exact h.ok.lenv a
  have HEA := Lib.hid hla
  have HEB := Lib.hid hlb
  clear h n0 n1 hla hlb
  go_enter Try.func69, Try.ntmps69
  go_upto_region 1 with fail
  generalize (w.alloc (.cells #[.int .i64 a.1, .int .i64 a.2] 35)).alloc (.cells #[.int .i64 b.1, .int .i64 b.2] 35) = w1 at *
  have h1l := (Array.getElem?_eq_some_iff.1 HN1.out).1
  have H1L := Lib.hid h1l
  clear h1l
  by_cases hab : la = lb
  · subst hab
    go_region_with (first | (go_at_call 27; have hg := hb2; clear hg; refine (HLB.out w2 (HS.out.below (HB2.out.drew.trans (hb2.mono HB2.out.size)))).mono ?_; rintro e w3 ⟨rfl, hb3⟩) | (go_at_call 27; refine (HLA.out _ (HS.out.below HB2.out.drew)).mono ?_; rintro e w2 ⟨rfl, hb2⟩; have q0' := (hb2.cell (p := ⟨w.heap.size + 1, 0, none⟩) H1L.out).trans q0; have q1' := (hb2.cell (p := ⟨w.heap.size + 1, 1, none⟩) H1L.out).trans q1))
    all_goals
      have hB2 := HB2.out.drew.trans (hb2.mono HB2.out.size)
      have HB3 := Lib.hid (hB2.trans (hb3.mono hB2.size))
      have hl2 : w.heap.size + 1 < w2.heap.size := Nat.lt_of_lt_of_le H1L.out hb2.size
      have n0 := (hb3.block w.heap.size (by omega)).trans ((hb2.block w.heap.size (show w.heap.size < w1.heap.size from by have := H1L.out; omega)).trans HN0.out)
      have n1 := (hb3.block (w.heap.size + 1) hl2).trans ((hb2.block (w.heap.size + 1) H1L.out).trans HN1.out)
      clear hb2 hb3 hB2 p0 p1 q0 q1 q0' q1' hl2
      obtain ⟨p0, p1, _⟩ := row2 n0
      have HN0' := Lib.hid n0
      have HN1' := Lib.hid n1
      clear n0 n1
      go_wp2_with fail
      refine (HLA.out w3 (HS.out.below HB3.out)).mono ?_
      rintro e w4 ⟨rfl, hb4⟩
      have HB4 := Lib.hid (HB3.out.trans (hb4.mono HB3.out.size))
      have HM0 := Lib.hid ((hb4.block w.heap.size (Array.getElem?_eq_some_iff.1 HN0'.out).1).trans HN0'.out)
      have HM1 := Lib.hid ((hb4.block (w.heap.size + 1) (Array.getElem?_eq_some_iff.1 HN1'.out).1).trans HN1'.out)
      clear hb4 p0 p1
      go_wp2_with fail
      go_loopw [19] (fun v wr => ∃ k : Nat, k ≤ la ∧ v = .int .i64 (k : Nat) ∧ Below w.heap.size w wr ∧ wr.heap[w.heap.size]? = some (.cells #[.int .i64 a.1, .int .i64 a.2] 35 (0, 0)) ∧ wr.heap[w.heap.size + 1]? = some (.cells #[.int .i64 b.1, .int .i64 b.2] 35 (0, 0)) ∧ ∀ i, i < k → (s.get a ((i : Nat) : Int)).1 = (s.get b ((i : Nat) : Int)).1) (fun v _ => la - (intOf v).toNat)
      case atStart => exact ⟨0, Nat.zero_le _, rfl, HB4.out, HM0.out, HM1.out, fun i hi => absurd hi (Nat.not_lt_zero _)⟩
      case round =>
        obtain ⟨k, hk, rfl, hbel, hn0, hn1, hall⟩ := hrel
        have HBL := Lib.hid hbel
        have HR0 := Lib.hid hn0
        have HR1 := Lib.hid hn1
        have HALL := Lib.hid hall
        obtain ⟨p0, p1, _⟩ := row2 hn0
        obtain ⟨q0, q1, _⟩ := row2 hn1
        clear hbel hn0 hn1 hall
        by_cases hlt : k < la
        · have hii : ((k : Nat) : Int) < ((la : Nat) : Int) := by omega
          go_wp2_with fail
          refine (slotsat_any g R s a b ((k : Nat) : Int) _ (HS.out.below HBL.out)).mono ?_
          rintro e w5 ⟨rfl, hb5⟩
          have HB5 := Lib.hid (HBL.out.trans (hb5.mono HBL.out.size))
          have HS0 := Lib.hid ((hb5.block w.heap.size (Array.getElem?_eq_some_iff.1 HR0.out).1).trans HR0.out)
          have HS1 := Lib.hid ((hb5.block (w.heap.size + 1) (Array.getElem?_eq_some_iff.1 HR1.out).1).trans HR1.out)
          clear hb5 p0 p1 q0 q1
          obtain ⟨x, hx⟩ : ∃ x, x = (s.get a ((k : Nat) : Int)).1 := ⟨_, rfl⟩
          obtain ⟨y, hy⟩ : ∃ y, y = (s.get b ((k : Nat) : Int)).1 := ⟨_, rfl⟩
          rw [← hx, ← hy]
          have HX := Lib.hid hx
          have HY := Lib.hid hy
          clear hx hy
          obtain ⟨x0, x1⟩ := x
          obtain ⟨y0, y1⟩ := y
          simp only
          have HB6 := Lib.hid (HB5.out.trans ((below1 w5 (.cells #[.int .i64 x0, .int .i64 x1, .int .i64 y0, .int .i64 y1] 126)).mono HB5.out.size))
          have HT0 := Lib.hid (((below1 w5 (.cells #[.int .i64 x0, .int .i64 x1, .int .i64 y0, .int .i64 y1] 126)).block w.heap.size (Array.getElem?_eq_some_iff.1 HS0.out).1).trans HS0.out)
          have HT1 := Lib.hid (((below1 w5 (.cells #[.int .i64 x0, .int .i64 x1, .int .i64 y0, .int .i64 y1] 126)).block (w.heap.size + 1) (Array.getElem?_eq_some_iff.1 HS1.out).1).trans HS1.out)
          obtain ⟨c0, c1, c2, c3⟩ := row4 (box1 w5 #[.int .i64 x0, .int .i64 x1, .int .i64 y0, .int .i64 y1] 126)
          go_upto_region 7 with fail
          generalize w5.alloc (.cells #[.int .i64 x0, .int .i64 x1, .int .i64 y0, .int .i64 y1] 126) = w6 at *
          by_cases h0 : x0 = y0
          · by_cases h1 : x1 = y1
            · subst h0
              subst h1
              go_wp2_with fail
              go_roundw
              case measure => simp only [intOf]; omega
              case rel => exact ⟨k + 1, by omega, by go_num, HB6.out, HT0.out, HT1.out, fun i hi => by
                rcases Nat.lt_or_eq_of_le (Nat.le_of_lt_succ hi) with hi | rfl
                · exact HALL.out i hi
                · exact HX.out.symm.trans HY.out⟩
            · subst h0
              have hne : (x1 == y1) = false := by rw [beq_eq_false_iff_ne]; exact h1
              go_wp2_with fail
              go_ret
              exact ⟨ret_bl (slotsEq_at (i := k) (by rw [← HEA.out]; exact hlt) (by rw [← HX.out, ← HY.out]; intro e; exact h1 (Prod.mk.inj e).2)).symm, HB6.out⟩
          · have hne : (x0 == y0) = false := by rw [beq_eq_false_iff_ne]; exact h0
            go_wp2_with fail
            go_ret
            exact ⟨ret_bl (slotsEq_at (i := k) (by rw [← HEA.out]; exact hlt) (by rw [← HX.out, ← HY.out]; intro e; exact h0 (Prod.mk.inj e).1)).symm, HB6.out⟩
        · obtain rfl : k = la := by omega
          have hii : ¬ ((k : Nat) : Int) < ((k : Nat) : Int) := by omega
          clear p0 p1 q0 q1
          go_wp2_with fail
          go_ret
          exact ⟨ret_bl (slotsEq_all (by rw [← HEA.out, ← HEB.out]) fun i hi => HALL.out i (by rw [HEA.out]; exact hi)).symm, HBL.out⟩
  · have hne : ¬ ((la : Nat) : Int) = ((lb : Nat) : Int) := by omega
    have hne2 : (((la : Nat) : Int) == ((lb : Nat) : Int)) = false := by rw [beq_eq_false_iff_ne]; exact hne
    go_region_with (first | (go_at_call 27; have hg := hb2; clear hg; refine (HLB.out w2 (HS.out.below (HB2.out.drew.trans (hb2.mono HB2.out.size)))).mono ?_; rintro e w3 ⟨rfl, hb3⟩) | (go_at_call 27; refine (HLA.out _ (HS.out.below HB2.out.drew)).mono ?_; rintro e w2 ⟨rfl, hb2⟩; have q0' := (hb2.cell (p := ⟨w.heap.size + 1, 0, none⟩) H1L.out).trans q0; have q1' := (hb2.cell (p := ⟨w.heap.size + 1, 1, none⟩) H1L.out).trans q1))
    all_goals
      have hB2 := HB2.out.drew.trans (hb2.mono HB2.out.size)
      have HB3 := Lib.hid (hB2.trans (hb3.mono hB2.size))
      clear hb2 hb3 hB2 p0 p1 q0 q1 q0' q1'
      go_wp2_with fail
      go_ret
      exact ⟨ret_bl (slotsEq_len (by rw [← HEA.out, ← HEB.out]; exact hab)).symm, HB3.out⟩
end Go.Proofs.Ytimnhbndokfgnaa
