/- stx.strange, may, worn: is an Other in a datum; may a piece have it; the wrap that a piece has. -/
import Derived.Test.YtbfcbicbeagjkaaGreatDoorSxDatum
import Derived.Test.YtbfcbicbeagjkaaGreatDoorRdSize
namespace Go.Proofs.YtbfcbicbeagjkaaGreatDoor
open Go.RowKit

def OthP (D : Dm) : Prop := ∀ (us : List Value) (w : World), Lay w D us → Calls Tryz.prog 93 #[.agg us.toArray] w fun e w' => e = .returned (.bool (othB D)) ∧ Below w.heap.size w w'
set_option maxRecDepth 100000 in
set_option maxHeartbeats 4000000 in
theorem othidx_any (l : List Dm) (HS : ∀ (j : Nat) (h : j < l.length), OthP (l[j]'h)) (av : Value) (us : List Value) (w : World) (hrow : RowV w av l.length 6 us) (hin : ∀ (i : Nat) (h : i < l.length), Lay w (l[i]'h) ((us.drop (i * 6)).take 6)) :
    Calls Tryz.prog 166 #[av, .func (.func 93) #[] #[]] w fun e w' => ∃ z : Int, e = .returned (.int .i64 z) ∧ (z < 0 → ∀ (j : Nat) (h : j < l.length), othB (l[j]'h) = false) ∧ (0 ≤ z → ∃ (j : Nat) (h : j < l.length), othB (l[j]'h) = true) ∧ Below w.heap.size w w' := by
  have HH := Lib.hid HS; clear HS
  have HRW := Lib.hid hrow
  have HIN := Lib.hid hin
  have hmx : l.length ≤ 9223372036854775807 := by have := hrow.2.1; unfold maxLen at this; omega
  have HMX := Lib.hid hmx
  obtain ⟨ao, cap, rfl⟩ : ∃ o c, av = .slice o l.length c := by obtain ⟨_, _, o, c, h, _⟩ := hrow; exact ⟨o, c, h⟩
  clear hrow hin
  go_enter Tryz.func166, Tryz.ntmps166
  go_wp2_with fail
  go_loopw [8] (fun v wr => ∃ (i : Nat), i ≤ l.length ∧ v = .int .i64 (i : Nat) ∧ (∀ (j : Nat) (h : j < l.length), j < i → othB (l[j]'h) = false) ∧ Below w.heap.size w wr) (fun v _ => l.length - (intOf v).toNat)
  case atStart => exact ⟨0, Nat.zero_le _, rfl, fun j _ h => by omega, Below.refl _ _⟩
  case round =>
    obtain ⟨i, hi, rfl, hall, hbl⟩ := hrel
    have hmx := HMX.out
    have HALL := Lib.hid hall
    have HBL := Lib.hid hbl
    clear hall hbl
    by_cases hin : i < l.length
    · have hii : ((i : Nat) : Int) < ((l.length : Nat) : Int) := by omega
      obtain ⟨b, off, cap', v0, v1, v2, v3, v4, v5, hav, _, _, hly, p0, p1, p2, p3, p4, p5⟩ := row_datum (HRW.out.below HBL.out) (fun j h => (HIN.out j h).keep HBL.out) hin
      simp only [Value.slice.injEq, true_and] at hav
      obtain ⟨rfl, rfl⟩ := hav
      have HY := Lib.hid hly
      clear hly
      go_wp2_with fail
      clear p0 p1 p2 p3 p4 p5
      refine (HH.out i hin [v0, v1, v2, v3, v4, v5] _ HY.out).mono ?_
      rintro e w3 ⟨rfl, hb3⟩
      have HB3 := Lib.hid (HBL.out.trans (hb3.mono HBL.out.size))
      clear hb3
      cases hs : othB (l[i]'hin) with
      | true =>
        have HV := Lib.hid hs
        clear hs
        go_wp2_with fail
        go_ret
        exact ⟨i, rfl, fun h => by omega, fun _ => ⟨i, hin, HV.out⟩, HB3.out⟩
      | false =>
        have HV := Lib.hid hs
        clear hs
        go_wp2_with fail
        go_roundw
        case measure => simp only [intOf]; omega
        case rel =>
          refine ⟨i + 1, by omega, by go_num, fun j h hj => ?_, HB3.out⟩
          rcases Nat.lt_or_eq_of_le (Nat.le_of_lt_succ hj) with h2 | h2
          · exact HALL.out j h h2
          · subst h2; exact HV.out
    · obtain rfl : i = l.length := by omega
      go_wp2_with fail
      go_ret
      exact ⟨-1, rfl, fun _ j h => HALL.out j h h, fun h => by omega, HBL.out⟩
set_option maxRecDepth 100000 in
set_option maxHeartbeats 4000000 in
theorem othcon_any (l : List Dm) (HS : ∀ (j : Nat) (h : j < l.length), OthP (l[j]'h)) (av : Value) (us : List Value) (w : World) (hrow : RowV w av l.length 6 us) (hin : ∀ (i : Nat) (h : i < l.length), Lay w (l[i]'h) ((us.drop (i * 6)).take 6)) :
    Calls Tryz.prog 132 #[av, .func (.func 93) #[] #[]] w fun e w' => e = .returned (.bool (l.any othB)) ∧ Below w.heap.size w w' := by
  have HC := Lib.hid (othidx_any l HS av us w hrow hin)
  obtain ⟨ao, cap, rfl⟩ : ∃ o c, av = .slice o l.length c := by obtain ⟨_, _, o, c, h, _⟩ := hrow; exact ⟨o, c, h⟩
  clear HS hrow hin
  go_enter Tryz.func132, Tryz.ntmps132
  go_wp2_with fail
  refine HC.out.mono ?_
  rintro e w3 ⟨z, rfl, hno, hyes, hb3⟩
  have HB3 := Lib.hid hb3
  rcases (by omega : 0 ≤ z ∨ z < 0) with hz | hz
  · have hd : decide ((0 : Int) ≤ z) = true := by simpa using hz
    have HV : Hid (l.any othB = true) := Lib.hid (by
      obtain ⟨j, hj, h⟩ := hyes hz
      rw [List.any_eq_true]
      exact ⟨_, List.getElem_mem hj, h⟩)
    clear hz hno hyes hb3
    go_wp2_with fail
    go_ret
    exact ⟨ret_bl HV.out.symm, HB3.out⟩
  · have hd : decide ((0 : Int) ≤ z) = false := by simp; omega
    have HV : Hid (l.any othB = false) := Lib.hid (by
      rw [List.any_eq_false]
      intro x hx
      obtain ⟨j, hj, rfl⟩ := List.mem_iff_getElem.1 hx
      rw [hno hz j hj]; decide)
    clear hz hno hyes hb3
    go_wp2_with fail
    go_ret
    exact ⟨ret_bl HV.out.symm, HB3.out⟩
set_option maxRecDepth 100000 in
set_option maxHeartbeats 4000000 in
theorem strange_any : ∀ (m : Nat) (D : Dm), D.sz ≤ m → OthP D := by
  intro m
  induction m with
  | zero => intro D h; have := sz_pos D; omega
  | succ m ih =>
    intro D hsz us w h1
    have HIH := Lib.hid ih
    clear ih
    obtain ⟨k, t, n, r, l, a⟩ := D
    have HSZ : Hid (∀ (j : Nat) (h : j < l.length), (l[j]'h).sz ≤ m) := Lib.hid fun j h => by
      have := Dm.sz_mem (d := .mk k t n r l a) (x := l[j]) (List.getElem_mem h)
      omega
    obtain ⟨lv, av, xs, rfl, _, _, _, hr, hrow1, hin1⟩ := h1.open'
    simp only [Dm.k, Dm.t, Dm.n, Dm.r, Dm.l, Dm.a] at hr hrow1 hin1 ⊢
    have HRW := Lib.hid hrow1
    have HIN := Lib.hid hin1
    obtain ⟨ao, cv0, rfl⟩ : ∃ o c, av = .slice o l.length c := by obtain ⟨_, _, o, c, h, _⟩ := hrow1; exact ⟨o, c, h⟩
    obtain ⟨lo0, lc0, rfl⟩ : ∃ o c, lv = .slice o r.length c := by obtain ⟨_, o, c, h, _⟩ := hr; exact ⟨o, c, h⟩
    clear h1 hr hrow1 hin1 hsz
    have HB1 := Lib.hid (below1 w (.cells #[.int .i64 k, .string (mkB t), .bool n, .slice lo0 r.length lc0, .slice ao l.length cv0, .int .i64 a] 27))
    show Calls Tryz.prog 93 #[.agg #[.int .i64 k, .string (mkB t), .bool n, .slice lo0 r.length lc0, .slice ao l.length cv0, .int .i64 a]] w _
    by_cases hk : k = 11
    · subst hk
      go_enter Tryz.func93, Tryz.ntmps93
      go_wp2_with fail
      go_ret
      exact ⟨ret_bl othB_is.symm, HB1.out⟩
    · have hd : (k == 11) = false := by rw [beq_eq_false_iff_ne]; exact hk
      have HK := Lib.hid hk
      clear hk
      go_enter Tryz.func93, Tryz.ntmps93
      go_wp2_with fail
      refine (othcon_any l (fun j h => HIH.out (l[j]'h) (HSZ.out j h)) _ xs _ (HRW.out.below HB1.out) (fun j h => (HIN.out j h).keep HB1.out)).mono ?_
      rintro e w3 ⟨rfl, hb3⟩
      have HB3 := Lib.hid (HB1.out.trans (hb3.mono HB1.out.size))
      have HV : Hid (othB (.mk k t n r l a) = l.any othB) := Lib.hid (by rw [othB_mk, decide_eq_false HK.out, Bool.false_or])
      clear hb3
      go_wp2_with fail
      go_ret
      exact ⟨ret_bl HV.out.symm, HB3.out⟩

set_option maxRecDepth 100000 in
set_option maxHeartbeats 4000000 in
/-- stx.may. -/
theorem may_any (D : Dm) (us : List Value) (w : World) (h1 : Lay w D us) (hsm : Sm 1100000 D) (ht : Tabs w) :
    Calls Tryz.prog 53 #[.agg us.toArray] w fun e w' => e = .returned (.bool (sndD D && !othB D)) ∧ Below w.heap.size w w' := by
  have HLY := Lib.hid h1
  have HSM := Lib.hid hsm
  have HT := Lib.hid ht
  obtain ⟨k, t, n, r, l, a⟩ := D
  obtain ⟨lv, av, xs, rfl, _, _, _, hr, hrow1, _⟩ := h1.open'
  simp only [Dm.k, Dm.t, Dm.n, Dm.r, Dm.l, Dm.a] at hr hrow1 HLY ⊢
  obtain ⟨ao, cv0, rfl⟩ : ∃ o c, av = .slice o l.length c := by obtain ⟨_, _, o, c, h, _⟩ := hrow1; exact ⟨o, c, h⟩
  obtain ⟨lo0, lc0, rfl⟩ : ∃ o c, lv = .slice o r.length c := by obtain ⟨_, o, c, h, _⟩ := hr; exact ⟨o, c, h⟩
  clear h1 hr hrow1 hsm ht
  have HB1 := Lib.hid (below1 w (.cells #[.int .i64 k, .string (mkB t), .bool n, .slice lo0 r.length lc0, .slice ao l.length cv0, .int .i64 a] 27))
  have HX1 := Lib.hid (heap_alloc_new w (.cells #[.int .i64 k, .string (mkB t), .bool n, .slice lo0 r.length lc0, .slice ao l.length cv0, .int .i64 a] 27))
  show Calls Tryz.prog 53 #[.agg #[.int .i64 k, .string (mkB t), .bool n, .slice lo0 r.length lc0, .slice ao l.length cv0, .int .i64 a]] w _
  go_enter Tryz.func53, Tryz.ntmps53
  go_wp2_with fail
  refine (dsound_any (.mk k t n r l a) _ _ (HLY.out.keep HB1.out) HSM.out (HT.out.below HB1.out (Nat.le_refl _))).mono ?_
  rintro e w3 ⟨rfl, hb3⟩
  have HB3 := Lib.hid (HB1.out.trans (hb3.mono HB1.out.size))
  have HX3 := Lib.hid ((hb3.block _ (Array.getElem?_eq_some_iff.1 HX1.out).1).trans HX1.out)
  clear hb3
  cases hs : sndD (.mk k t n r l a) with
  | false =>
    have HS := Lib.hid hs
    clear hs
    go_wp2_with fail
    go_ret
    exact ⟨ret_bl (by rw [HS.out]; rfl), HB3.out⟩
  | true =>
    have HS := Lib.hid hs
    clear hs
    obtain ⟨c0, c1, c2, c3, c4, c5⟩ := row6d HX3.out
    go_wp2_with fail
    refine (strange_any _ _ (Nat.le_refl _) _ _ (HLY.out.keep HB3.out)).mono ?_
    rintro e w4 ⟨rfl, hb4⟩
    have HB4 := Lib.hid (HB3.out.trans (hb4.mono HB3.out.size))
    clear hb4
    go_wp2_with fail
    go_ret
    exact ⟨ret_bl (by rw [HS.out]; rfl), HB4.out⟩
end Go.Proofs.YtbfcbicbeagjkaaGreatDoor
