/- law10's light: is there not too much in a piece of syntax? -/
import Derived.Test.YtbfcbicbeagjkaaDoorSxOpen
import Derived.Test.YtbfcbicbeagjkaaDoorMem
import Derived.StillTailTactics
namespace Go.Proofs.YtbfcbicbeagjkaaDoor
open Go.RowKit

theorem rowS8 {W : World} {g : Nat} {a0 a1 a2 a3 a4 a5 a6 a7 : Value} {e : TypeId} (h : W.heap[g]? = some (.cells #[a0, a1, a2, a3, a4, a5, a6, a7] e (0, 0))) :
    W.cell? ⟨g, 0, none⟩ = some a0 ∧ W.cell? ⟨g, 1, none⟩ = some a1 ∧ W.cell? ⟨g, 2, none⟩ = some a2 ∧ W.cell? ⟨g, 3, none⟩ = some a3 ∧ W.cell? ⟨g, 4, none⟩ = some a4 ∧ W.cell? ⟨g, 5, none⟩ = some a5 ∧ W.cell? ⟨g, 6, none⟩ = some a6 ∧ W.cell? ⟨g, 7, none⟩ = some a7 :=
  ⟨cell_heap h 0, cell_heap h 1, cell_heap h 2, cell_heap h 3, cell_heap h 4, cell_heap h 5, cell_heap h 6, cell_heap h 7⟩
/-- The i-th of a row of pieces. -/
theorem row_sx {w : World} {av : Value} {l : List Sx} {us : List Value} (hrow : RowV w av l.length 8 us) (hin : ∀ (i : Nat) (h : i < l.length), SLay w (l[i]'h) ((us.drop (i * 8)).take 8)) {i : Nat} (h : i < l.length) :
    ∃ b off cap v0 v1 v2 v3 v4 v5 v6 v7, av = .slice (some ⟨b, off, none⟩) l.length cap ∧ l.length ≤ cap ∧ b < w.heap.size ∧ SLay w (l[i]'h) [v0, v1, v2, v3, v4, v5, v6, v7] ∧ w.cell? ⟨b, off + i * 8, none⟩ = some v0 ∧ w.cell? ⟨b, off + i * 8 + 1, none⟩ = some v1 ∧ w.cell? ⟨b, off + i * 8 + 2, none⟩ = some v2 ∧
      w.cell? ⟨b, off + i * 8 + 3, none⟩ = some v3 ∧ w.cell? ⟨b, off + i * 8 + 4, none⟩ = some v4 ∧ w.cell? ⟨b, off + i * 8 + 5, none⟩ = some v5 ∧ w.cell? ⟨b, off + i * 8 + 6, none⟩ = some v6 ∧ w.cell? ⟨b, off + i * 8 + 7, none⟩ = some v7 := by
  obtain ⟨h1, _, ao, cap, h3, h4, h5⟩ := hrow
  have hl := hin i h
  have hlen := hl.len
  rcases h5 with ⟨h5, _⟩ | ⟨b, off, h5, h6, h7⟩
  · omega
  · have hg : ∀ j, j < 8 → ((us.drop (i * 8)).take 8)[j]? = us[i * 8 + j]? := fun j hj => by rw [List.getElem?_take, if_pos hj, List.getElem?_drop]
    generalize (us.drop (i * 8)).take 8 = es at *
    match es, hlen with
    | [v0, v1, v2, v3, v4, v5, v6, v7], _ =>
      subst h5
      have hc : ∀ j u, j < 8 → ([v0, v1, v2, v3, v4, v5, v6, v7] : List Value)[j]? = some u → w.cell? ⟨b, off + i * 8 + j, none⟩ = some u := fun j u hj hu => by
        rw [Nat.add_assoc]
        exact h7 _ _ (by rw [← hg j hj]; exact hu)
      exact ⟨b, off, cap, v0, v1, v2, v3, v4, v5, v6, v7, h3, h4, h6, hl, hc 0 _ (by omega) rfl, hc 1 _ (by omega) rfl, hc 2 _ (by omega) rfl, hc 3 _ (by omega) rfl, hc 4 _ (by omega) rfl, hc 5 _ (by omega) rfl, hc 6 _ (by omega) rfl, hc 7 _ (by omega) rfl⟩
/-- Not too deep, and no list too long. -/
def lightS : Nat → Sx → Bool
  | 0, _ => false
  | f + 1, x => (decide (x.l.length ≤ 300) && (decide (x.m.length ≤ 600) && decide (x.s.length ≤ 600))) && x.l.all (lightS f)
theorem lightS_mem {f : Nat} {x : Sx} (h : lightS (f + 1) x = true) : x.l.length ≤ 300 ∧ x.m.length ≤ 600 ∧ x.s.length ≤ 600 ∧ ∀ (j : Nat) (hj : j < x.l.length), lightS f (x.l[j]'hj) = true := by
  unfold lightS at h
  simp only [Bool.and_eq_true, decide_eq_true_iff, List.all_eq_true] at h
  exact ⟨h.1.1, h.1.2.1, h.1.2.2, fun j hj => h.2 _ (List.getElem_mem hj)⟩
theorem lightS_long {f : Nat} {x : Sx} (h : 300 < x.l.length ∨ 600 < x.m.length ∨ 600 < x.s.length) : lightS (f + 1) x = false := by
  cases e : lightS (f + 1) x with
  | false => rfl
  | true => have := lightS_mem e; omega
theorem lightS_not {f : Nat} {x : Sx} {j : Nat} (hj : j < x.l.length) (h : lightS f (x.l[j]'hj) = false) : lightS (f + 1) x = false := by
  cases e : lightS (f + 1) x with
  | false => rfl
  | true => rw [(lightS_mem e).2.2.2 j hj] at h; cases h
theorem lightS_yes {f : Nat} {x : Sx} (h1 : x.l.length ≤ 300) (h2 : x.m.length ≤ 600) (h3 : x.s.length ≤ 600) (h4 : ∀ (j : Nat) (hj : j < x.l.length), lightS f (x.l[j]'hj) = true) : lightS (f + 1) x = true := by
  unfold lightS
  simp only [Bool.and_eq_true, decide_eq_true_iff, List.all_eq_true]
  refine ⟨⟨h1, h2, h3⟩, fun y hy => ?_⟩
  obtain ⟨j, hj, rfl⟩ := List.mem_iff_getElem.1 hy
  exact h4 j hj

set_option maxRecDepth 100000 in
set_option maxHeartbeats 4000000 in
theorem light_sx : ∀ (f : Nat) (D : Sx) (us : List Value) (w : World) (dp : Int), dp = 101 - (f : Int) → f ≤ 100 → SLay w D us → Calls Tryd.prog 5 #[.agg us.toArray, .int .i64 dp] w fun e w' => e = .returned (.bool (lightS f D)) ∧ Below w.heap.size w w' := by
  intro f
  induction f with
  | zero =>
    intro D us w dp hdp _ h1
    obtain ⟨k, t, n, r, l, a, m, s⟩ := D
    obtain ⟨lv, av, mv, sv, xs, rfl, _⟩ := h1.open'
    simp only [Sx.k, Sx.t, Sx.n, Sx.a]
    have hd : decide ((100 : Int) < dp) = true := by simp; omega
    clear hdp h1
    have hb1 := below1 w (.cells #[.int .i64 k, .string t, .bool n, lv, av, .int .i64 a, mv, sv] 28)
    have HB1 := Lib.hid hb1
    clear hb1
    show Calls Tryd.prog 5 #[.agg #[.int .i64 k, .string t, .bool n, lv, av, .int .i64 a, mv, sv], .int .i64 dp] w _
    go_enter Tryd.func5, Tryd.ntmps5
    go_wp2_with fail
    go_ret
    exact ⟨rfl, HB1.out⟩
  | succ f ih =>
    intro D us w dp hdp hf h1
    have HIH := Lib.hid ih
    clear ih
    obtain ⟨k, t, n, r, l, a, m, s⟩ := D
    obtain ⟨lv, av, mv, sv, xs, rfl, _, _, _, hrow1, hrm, hrs, hin1⟩ := h1.open'
    simp only [Sx.l, Sx.m, Sx.s] at hrow1 hin1 hrm hrs
    simp only [Sx.k, Sx.t, Sx.n, Sx.a]
    have hd : decide ((100 : Int) < dp) = false := by simp; omega
    have HI1 := Lib.hid hin1
    have HW1 := Lib.hid hrow1
    have HDP : Hid (dp + 1 = 101 - (f : Int) ∧ f ≤ 100 ∧ (-1000 : Int) ≤ dp ∧ dp ≤ 100) := Lib.hid (by omega)
    have hdr : (-1000 : Int) ≤ dp ∧ dp ≤ 100 := by omega
    obtain ⟨ao, cv0, rfl⟩ : ∃ o c, av = .slice o l.length c := by obtain ⟨_, _, o, c, h, _⟩ := hrow1; exact ⟨o, c, h⟩
    obtain ⟨mo, mc, rfl⟩ : ∃ o c, mv = .slice o m.length c := by obtain ⟨_, _, o, c, h, _⟩ := hrm; exact ⟨o, c, h⟩
    obtain ⟨so, sc, rfl⟩ : ∃ o c, sv = .slice o s.length c := by obtain ⟨_, _, o, c, h, _⟩ := hrs; exact ⟨o, c, h⟩
    clear h1 hrow1 hin1 hdp hf hrm hrs
    have hbb := below1 w (.cells #[.int .i64 k, .string t, .bool n, lv, .slice ao l.length cv0, .int .i64 a, .slice mo m.length mc, .slice so s.length sc] 28)
    have r0 := box1 w #[.int .i64 k, .string t, .bool n, lv, .slice ao l.length cv0, .int .i64 a, .slice mo m.length mc, .slice so s.length sc] 28
    have HBB := Lib.hid hbb
    have HQ0 := Lib.hid r0
    clear hbb r0
    have hmx : l.length ≤ 9223372036854775807 := by have := HW1.out.2.1; unfold maxLen at this; omega
    have HMX := Lib.hid hmx
    clear hmx
    show Calls Tryd.prog 5 #[.agg #[.int .i64 k, .string t, .bool n, lv, .slice ao l.length cv0, .int .i64 a, .slice mo m.length mc, .slice so s.length sc], .int .i64 dp] w _
    obtain ⟨a0, a1, a2, a3, a4, a5, a6, a7⟩ := rowS8 HQ0.out
    by_cases hx : 300 < l.length
    · have hxL : decide ((300 : Int) < (l.length : Int)) = true := by simp; omega
      have HNO := Lib.hid (lightS_long (f := f) (x := .mk k t n r l a m s) (.inl hx))
      clear hx
      go_enter Tryd.func5, Tryd.ntmps5
      go_wp2_with fail
      go_ret
      exact ⟨by rw [HNO.out]; rfl, HBB.out⟩
    have hxL : decide ((300 : Int) < (l.length : Int)) = false := by simp; omega
    have HLx := Lib.hid (Nat.le_of_not_lt hx)
    clear hx
    by_cases hy : 600 < m.length
    · have hyL : decide ((600 : Int) < (m.length : Int)) = true := by simp; omega
      have HNO := Lib.hid (lightS_long (f := f) (x := .mk k t n r l a m s) (.inr (.inl hy)))
      clear hy
      go_enter Tryd.func5, Tryd.ntmps5
      go_wp2_with fail
      go_ret
      exact ⟨by rw [HNO.out]; rfl, HBB.out⟩
    have hyL : decide ((600 : Int) < (m.length : Int)) = false := by simp; omega
    have HLy := Lib.hid (Nat.le_of_not_lt hy)
    clear hy
    by_cases hz : 600 < s.length
    · have hzL : decide ((600 : Int) < (s.length : Int)) = true := by simp; omega
      have HNO := Lib.hid (lightS_long (f := f) (x := .mk k t n r l a m s) (.inr (.inr hz)))
      clear hz
      go_enter Tryd.func5, Tryd.ntmps5
      go_wp2_with fail
      go_ret
      exact ⟨by rw [HNO.out]; rfl, HBB.out⟩
    have hzL : decide ((600 : Int) < (s.length : Int)) = false := by simp; omega
    have HLz := Lib.hid (Nat.le_of_not_lt hz)
    clear hz
    go_enter Tryd.func5, Tryd.ntmps5
    go_wp2_with fail
    clear a0 a1 a2 a3 a4 a5 a6 a7 hxL hyL hzL hd
    go_loopw [5] (fun v wr => ∃ i : Nat, i ≤ l.length ∧ v = .int .i64 (i : Nat) ∧ (∀ (j : Nat) (h : j < l.length), j < i → lightS f (l[j]'h) = true) ∧ Below (w.heap.size + 1) (w.alloc (.cells #[.int .i64 k, .string t, .bool n, lv, .slice ao l.length cv0, .int .i64 a, .slice mo m.length mc, .slice so s.length sc] 28)) wr) (fun v _ => l.length - (intOf v).toNat)
    case atStart => exact ⟨0, Nat.zero_le _, rfl, fun j _ h => by omega, Below.refl _ _⟩
    case round =>
      obtain ⟨i, hi, rfl, hall, hbel⟩ := hrel
      have hmx := HLx.out
      have HALL := Lib.hid hall
      have HBL := Lib.hid hbel
      have HBR := Lib.hid (HBB.out.trans (hbel.mono (by omega)))
      have g0 := (rowS8 ((hbel.block w.heap.size (by omega)).trans HQ0.out)).2.2.2.2.1
      clear hall hbel
      by_cases hin : i < l.length
      · have hii : ((i : Nat) : Int) < ((l.length : Nat) : Int) := by omega
        obtain ⟨b, off, cap, v0, v1, v2, v3, v4, v5, v6, v7, hav, _, _, hly, p0, p1, p2, p3, p4, p5, p6, p7⟩ := row_sx (HW1.out.below HBR.out) (fun j h => (HI1.out j h).keep HBR.out) hin
        simp only [Value.slice.injEq, true_and] at hav
        obtain ⟨rfl, rfl⟩ := hav
        have HY1 := Lib.hid hly
        clear hly
        go_wp2_with fail
        clear p0 p1 p2 p3 p4 p5 p6 p7 g0
        refine (HIH.out (l[i]'hin) [v0, v1, v2, v3, v4, v5, v6, v7] _ _ HDP.out.1 HDP.out.2.1 HY1.out).mono ?_
        rintro e w3 ⟨rfl, hb3⟩
        have HB3 := Lib.hid (HBL.out.trans (hb3.mono (by have := HBL.out.size; simp at this; omega)))
        clear hb3
        cases hs : lightS f (l[i]'hin) with
        | false =>
          have HNO := Lib.hid (lightS_not (x := .mk k t n r l a m s) hin hs)
          clear hs
          go_wp2_with fail
          go_ret
          exact ⟨by rw [HNO.out]; rfl, HBB.out.trans (HB3.out.mono (by omega))⟩
        | true =>
          have HS := Lib.hid hs
          clear hs
          go_wp2_with fail
          go_roundw
          case measure => simp only [intOf]; omega
          case rel =>
            refine ⟨i + 1, by omega, by go_num, fun j h hj => ?_, HB3.out⟩
            rcases Nat.lt_or_eq_of_le (Nat.le_of_lt_succ hj) with h2 | h2
            · exact HALL.out j h h2
            · subst h2; exact HS.out
      · obtain rfl : i = l.length := by omega
        have HYES := Lib.hid (lightS_yes (x := .mk k t n r l a m s) HLx.out HLy.out HLz.out fun j h => HALL.out j h h)
        go_wp2_with fail
        go_ret
        exact ⟨by rw [HYES.out]; rfl, HBR.out⟩
end Go.Proofs.YtbfcbicbeagjkaaDoor
