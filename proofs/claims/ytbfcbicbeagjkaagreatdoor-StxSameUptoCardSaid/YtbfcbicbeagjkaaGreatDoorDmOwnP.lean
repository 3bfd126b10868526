/- x -/
import Derived.Test.YtbfcbicbeagjkaaGreatDoorSxP
import Derived.Test.YtbfcbicbeagjkaaGreatDoorRdMath
import Derived.Test.YtbfcbicbeagjkaaGreatDoorWpSame
import Derived.StillTailTactics
import Derived.Lib.Strings
import Derived.Test.YtbfcbicbeagjkaaGreatDoorDm
namespace Go.Proofs.YtbfcbicbeagjkaaGreatDoor
open Go.RowKit
def sameS : Nat → Sx → Sx → Bool
 | 0, _, _ => false
 | f + 1, x, y => decide (x.k = y.k ∧ x.t = y.t ∧ (x.n = y.n ∧ x.r = y.r) ∧ x.m = y.m ∧ x.s = y.s ∧ x.l.length = y.l.length) && (List.range x.l.length).all fun i => match x.l[i]?, y.l[i]? with
  | some a, some b => sameS f a b
  | _, _ => false
theorem sameS_iff {f : Nat} {k k' : Int} {t t' : ByteArray} {n n' : Bool} {r r' : List Nat} {l l' : List Sx} {a a' : Int} {m m' s s' : List Int} : sameS (f + 1) (.mk k t n r l a m s) (.mk k' t' n' r' l' a' m' s') = true ↔ (k = k' ∧ t = t' ∧ (n = n' ∧ r = r') ∧ m = m' ∧ s = s' ∧ l.length = l'.length ∧ ∀ (j : Nat) (h : j < l.length) (h' : j < l'.length), sameS f (l[j]'h) (l'[j]'h') = true) := by
 rw [sameS, Bool.and_eq_true, List.all_eq_true]
 constructor
 . rintro ⟨h0, h7⟩
   obtain ⟨h1, h2, h3, h4, h5, h6⟩ := of_decide_eq_true h0
   refine ⟨h1, h2, h3, h4, h5, h6, fun j h h' => ?_⟩
   have := h7 j (List.mem_range.2 h)
   simp only [Sx.l] at this
   rwa [List.getElem?_eq_getElem h, List.getElem?_eq_getElem h'] at this
 . rintro ⟨h1, h2, h3, h4, h5, h6, h7⟩
   refine ⟨decide_eq_true ⟨h1, h2, h3, h4, h5, h6⟩, fun j hj => ?_⟩
   have h : j < l.length := List.mem_range.1 hj
   have h' : j < l'.length := h6 ▸ h
   simp only [Sx.l]
   rw [List.getElem?_eq_getElem h, List.getElem?_eq_getElem h']
   exact h7 j h h'
theorem notS {f : Nat} {k k' : Int} {t t' : ByteArray} {n n' : Bool} {r r' : List Nat} {l l' : List Sx} {a a' : Int} {m m' s s' : List Int} (h : ¬ (k = k' ∧ t = t' ∧ (n = n' ∧ r = r') ∧ m = m' ∧ s = s' ∧ l.length = l'.length ∧ ∀ (j : Nat) (h : j < l.length) (h' : j < l'.length), sameS f (l[j]'h) (l'[j]'h') = true)) : sameS (f + 1) (.mk k t n r l a m s) (.mk k' t' n' r' l' a' m' s') = false := by
 cases e : sameS (f + 1) (.mk k t n r l a m s) (.mk k' t' n' r' l' a' m' s') with
 | false => rfl
 | true => exact absurd (sameS_iff.1 e) h
theorem txt_ne {t t' : ByteArray} (hne : t ≠ t') : (t.toList == t'.toList) = false := by
 rw [beq_eq_false_iff_ne]
 intro e
 refine hne ?_
 have e1 : t.toList = t.data.toList := Lib.toList_data _
 have e2 : t'.toList = t'.data.toList := Lib.toList_data _
 rw [e1, e2] at e
 apply ByteArray.ext
 exact Array.ext' e
theorem RowV.slu {w : World} {v : Value} {r : List Nat} (h : RowV w v r.length 1 (ucs r)) : Sl .u32 w v r := by
 obtain ⟨_, hm, ao, cap, rfl, hc, h5⟩ := h
 refine ⟨hm, ao, cap, rfl, hc, ?_⟩
 rcases h5 with ⟨h0, h1⟩ | ⟨b, off, e, hb, hcell⟩
 . exact .inl ⟨List.eq_nil_of_length_eq_zero h0, h1⟩
 . refine .inr ⟨b, off, e, hb, fun j hj => ?_⟩
   refine hcell j _ ?_
   unfold ucs limb
   rw [List.getElem?_map, List.getElem?_eq_getElem hj]
   simp [List.getD_eq_getElem?_getD, List.getElem?_eq_getElem hj]
set_option maxRecDepth 100000 in
set_option maxHeartbeats 8000000 in
theorem exact_sx : ∀ (f : Nat) (x y : Sx), lightS f x = true → ∀ (us vs : List Value) (w : World), SLay w x us → SLay w y vs → Calls Tryz.prog 21 #[.agg us.toArray, .agg vs.toArray] w fun e w' => e = .returned (.bool (sameS f x y)) ∧ Below w.heap.size w w' := by
 intro f
 induction f with
 | zero => intro x y h; cases h
 | succ f ih =>
  intro x y hlt us vs w h1 h2
  have HIH := Lib.hid ih
  clear ih
  obtain ⟨k, t, n, r, l, a, m, s⟩ := x
  obtain ⟨k', t', n', r', l', a', m', s'⟩ := y
  obtain ⟨hl1, _, _, hl4⟩ := lightS_mem hlt
  obtain ⟨lv, av, mv, sv, xs, rfl, _, _, hr, hrow, hm, hs, hin⟩ := h1.open'
  obtain ⟨lv', av', mv', sv', xs', rfl, _, _, hr', hrow', hm', hs', hin'⟩ := h2.open'
  simp only [Sx.k, Sx.t, Sx.n, Sx.r, Sx.l, Sx.a, Sx.m, Sx.s] at hl1 hl4 hr hrow hm hs hin hr' hrow' hm' hs' hin' ⊢
  have HL4 := Lib.hid hl4
  have HR1 := Lib.hid (RowV.slu hr)
  have HR2 := Lib.hid (RowV.slu hr')
  have HM1 : Hid (Iz w mv m) := Lib.hid hm
  have HM2 : Hid (Iz w mv' m') := Lib.hid hm'
  have HS1 : Hid (Iz w sv s) := Lib.hid hs
  have HS2 : Hid (Iz w sv' s') := Lib.hid hs'
  have HW1 := Lib.hid hrow
  have HW2 := Lib.hid hrow'
  have HI1 := Lib.hid hin
  have HI2 := Lib.hid hin'
  obtain ⟨ao, cv, rfl⟩ : ∃ o c, av = .slice o l.length c := by obtain ⟨_, _, o, c, h, _⟩ := hrow; exact ⟨o, c, h⟩
  obtain ⟨lo, lc, rfl⟩ : ∃ o c, lv = .slice o r.length c := by obtain ⟨_, _, o, c, h, _⟩ := hr; exact ⟨o, c, h⟩
  obtain ⟨mo, mc, rfl⟩ : ∃ o c, mv = .slice o m.length c := by obtain ⟨_, _, o, c, h, _⟩ := hm; exact ⟨o, c, h⟩
  obtain ⟨so, sc, rfl⟩ : ∃ o c, sv = .slice o s.length c := by obtain ⟨_, _, o, c, h, _⟩ := hs; exact ⟨o, c, h⟩
  obtain ⟨ao', cv', rfl⟩ : ∃ o c, av' = .slice o l'.length c := by obtain ⟨_, _, o, c, h, _⟩ := hrow'; exact ⟨o, c, h⟩
  obtain ⟨lo', lc', rfl⟩ : ∃ o c, lv' = .slice o r'.length c := by obtain ⟨_, _, o, c, h, _⟩ := hr'; exact ⟨o, c, h⟩
  obtain ⟨mo', mc', rfl⟩ : ∃ o c, mv' = .slice o m'.length c := by obtain ⟨_, _, o, c, h, _⟩ := hm'; exact ⟨o, c, h⟩
  obtain ⟨so', sc', rfl⟩ : ∃ o c, sv' = .slice o s'.length c := by obtain ⟨_, _, o, c, h, _⟩ := hs'; exact ⟨o, c, h⟩
  have HMX := Lib.hid hl1
  clear h1 h2 hlt hl1 hl4 hr hrow hm hs hin hr' hrow' hm' hs' hin'
  have hbb := below2 w (.cells #[.int .i64 k, .string t, .bool n, .slice lo r.length lc, .slice ao l.length cv, .int .i64 a, .slice mo m.length mc, .slice so s.length sc] 35) (.cells #[.int .i64 k', .string t', .bool n', .slice lo' r'.length lc', .slice ao' l'.length cv', .int .i64 a', .slice mo' m'.length mc', .slice so' s'.length sc'] 35)
  have r0 : ((w.alloc (.cells #[.int .i64 k, .string t, .bool n, .slice lo r.length lc, .slice ao l.length cv, .int .i64 a, .slice mo m.length mc, .slice so s.length sc] 35)).alloc (.cells #[.int .i64 k', .string t', .bool n', .slice lo' r'.length lc', .slice ao' l'.length cv', .int .i64 a', .slice mo' m'.length mc', .slice so' s'.length sc'] 35)).heap[w.heap.size]? = some (.cells #[.int .i64 k, .string t, .bool n, .slice lo r.length lc, .slice ao l.length cv, .int .i64 a, .slice mo m.length mc, .slice so s.length sc] 35 (0, 0)) := newsw2.1
  have r1 : ((w.alloc (.cells #[.int .i64 k, .string t, .bool n, .slice lo r.length lc, .slice ao l.length cv, .int .i64 a, .slice mo m.length mc, .slice so s.length sc] 35)).alloc (.cells #[.int .i64 k', .string t', .bool n', .slice lo' r'.length lc', .slice ao' l'.length cv', .int .i64 a', .slice mo' m'.length mc', .slice so' s'.length sc'] 35)).heap[w.heap.size + 1]? = some (.cells #[.int .i64 k', .string t', .bool n', .slice lo' r'.length lc', .slice ao' l'.length cv', .int .i64 a', .slice mo' m'.length mc', .slice so' s'.length sc'] 35 (0, 0)) := newsw2.2
  have HBB := Lib.hid hbb
  have HQ0 := Lib.hid r0
  have HQ1 := Lib.hid r1
  clear hbb r0 r1
  show Calls Tryz.prog 21 #[.agg #[.int .i64 k, .string t, .bool n, .slice lo r.length lc, .slice ao l.length cv, .int .i64 a, .slice mo m.length mc, .slice so s.length sc], .agg #[.int .i64 k', .string t', .bool n', .slice lo' r'.length lc', .slice ao' l'.length cv', .int .i64 a', .slice mo' m'.length mc', .slice so' s'.length sc']] w _
  by_cases hk : k = k'
  case neg =>
   have HNO := Lib.hid (notS (f := f) (k := k) (k' := k') (t := t) (t' := t') (n := n) (n' := n') (r := r) (r' := r') (l := l) (l' := l') (a := a) (a' := a') (m := m) (m' := m') (s := s) (s' := s') fun h => hk h.1)
   have hK : (k != k') = true := by rw [bne_iff_ne]; exact hk
   obtain ⟨a0, a1, a2, a3, a4, a5, a6, a7⟩ := rowS8 HQ0.out
   obtain ⟨b0, b1, b2, b3, b4, b5, b6, b7⟩ := rowS8 HQ1.out
   clear hk
   go_enter Tryz.func21, Tryz.ntmps21
   go_wp2_with fail
   go_ret
   exact ⟨by rw [HNO.out]; rfl, HBB.out⟩
  subst hk
  have hK : (k != k) = false := by simp
  by_cases ht : t = t'
  case neg =>
   have HNO := Lib.hid (notS (f := f) (k := k) (k' := k) (t := t) (t' := t') (n := n) (n' := n') (r := r) (r' := r') (l := l) (l' := l') (a := a) (a' := a') (m := m) (m' := m') (s := s) (s' := s') fun h => ht h.2.1)
   have hT := txt_ne ht
   obtain ⟨a0, a1, a2, a3, a4, a5, a6, a7⟩ := rowS8 HQ0.out
   obtain ⟨b0, b1, b2, b3, b4, b5, b6, b7⟩ := rowS8 HQ1.out
   clear ht
   go_enter Tryz.func21, Tryz.ntmps21
   go_wp2_with fail
   go_ret
   exact ⟨by rw [HNO.out]; rfl, HBB.out⟩
  subst ht
  have hT : (t.toList != t.toList) = false := by simp
  obtain ⟨a0, a1, a2, a3, a4, a5, a6, a7⟩ := rowS8 HQ0.out
  obtain ⟨b0, b1, b2, b3, b4, b5, b6, b7⟩ := rowS8 HQ1.out
  go_enter Tryz.func21, Tryz.ntmps21
  go_wp2_with fail
  refine (same_any n n' _ _ r r' _ (HR1.out.below HBB.out) (HR2.out.below HBB.out)).mono ?_
  rintro e w1 ⟨rfl, hb⟩
  have HX0w1 := Lib.hid ((hb.block w.heap.size (by simp; omega)).trans HQ0.out)
  have HX1w1 := Lib.hid ((hb.block (w.heap.size + 1) (by simp)).trans HQ1.out)
  have HBw1 := Lib.hid (HBB.out.trans (hb.mono HBB.out.size))
  clear hb a0 a1 a2 a3 a4 a5 a6 a7 b0 b1 b2 b3 b4 b5 b6 b7 hT hK
  obtain ⟨a0, a1, a2, a3, a4, a5, a6, a7⟩ := rowS8 HX0w1.out
  obtain ⟨b0, b1, b2, b3, b4, b5, b6, b7⟩ := rowS8 HX1w1.out
  by_cases hn : n = n' ∧ r = r'
  case neg =>
   have HNO := Lib.hid (notS (f := f) (k := k) (k' := k) (t := t) (t' := t) (n := n) (n' := n') (r := r) (r' := r') (l := l) (l' := l') (a := a) (a' := a') (m := m) (m' := m') (s := s) (s' := s') fun h => hn h.2.2.1)
   rw [sameB_false hn]
   clear hn
   go_wp2_with fail
   go_ret
   exact ⟨by rw [HNO.out]; rfl, HBw1.out⟩
  rw [sameB_true hn]
  have HNw1 := Lib.hid hn
  clear hn
  go_wp2_with fail
  refine (sameintz_any _ _ m m' _ (HM1.out.below HBw1.out) (HM2.out.below HBw1.out)).mono ?_
  rintro e w2 ⟨rfl, hb⟩
  have HX0w2 := Lib.hid ((hb.block w.heap.size (by have := (Array.getElem?_eq_some_iff.1 HX0w1.out).1; omega)).trans HX0w1.out)
  have HX1w2 := Lib.hid ((hb.block (w.heap.size + 1) (by have := (Array.getElem?_eq_some_iff.1 HX1w1.out).1; omega)).trans HX1w1.out)
  have HBw2 := Lib.hid (HBw1.out.trans (hb.mono HBw1.out.size))
  clear hb a0 a1 a2 a3 a4 a5 a6 a7 b0 b1 b2 b3 b4 b5 b6 b7
  obtain ⟨a0, a1, a2, a3, a4, a5, a6, a7⟩ := rowS8 HX0w2.out
  obtain ⟨b0, b1, b2, b3, b4, b5, b6, b7⟩ := rowS8 HX1w2.out
  by_cases hn : m = m'
  case neg =>
   have HNO := Lib.hid (notS (f := f) (k := k) (k' := k) (t := t) (t' := t) (n := n) (n' := n') (r := r) (r' := r') (l := l) (l' := l') (a := a) (a' := a') (m := m) (m' := m') (s := s) (s' := s') fun h => hn h.2.2.2.1)
   rw [sameZ_false hn]
   clear hn
   go_wp2_with fail
   go_ret
   exact ⟨by rw [HNO.out]; rfl, HBw2.out⟩
  rw [sameZ_true hn]
  have HNw2 := Lib.hid hn
  clear hn
  go_wp2_with fail
  refine (sameintz_any _ _ s s' _ (HS1.out.below HBw2.out) (HS2.out.below HBw2.out)).mono ?_
  rintro e w3 ⟨rfl, hb⟩
  have HX0w3 := Lib.hid ((hb.block w.heap.size (by have := (Array.getElem?_eq_some_iff.1 HX0w2.out).1; omega)).trans HX0w2.out)
  have HX1w3 := Lib.hid ((hb.block (w.heap.size + 1) (by have := (Array.getElem?_eq_some_iff.1 HX1w2.out).1; omega)).trans HX1w2.out)
  have HBw3 := Lib.hid (HBw2.out.trans (hb.mono HBw2.out.size))
  clear hb a0 a1 a2 a3 a4 a5 a6 a7 b0 b1 b2 b3 b4 b5 b6 b7
  obtain ⟨a0, a1, a2, a3, a4, a5, a6, a7⟩ := rowS8 HX0w3.out
  obtain ⟨b0, b1, b2, b3, b4, b5, b6, b7⟩ := rowS8 HX1w3.out
  by_cases hn : s = s'
  case neg =>
   have HNO := Lib.hid (notS (f := f) (k := k) (k' := k) (t := t) (t' := t) (n := n) (n' := n') (r := r) (r' := r') (l := l) (l' := l') (a := a) (a' := a') (m := m) (m' := m') (s := s) (s' := s') fun h => hn h.2.2.2.2.1)
   rw [sameZ_false hn]
   clear hn
   go_wp2_with fail
   go_ret
   exact ⟨by rw [HNO.out]; rfl, HBw3.out⟩
  rw [sameZ_true hn]
  have HNw3 := Lib.hid hn
  clear hn
  by_cases hl : l.length = l'.length
  case neg =>
   have HNO := Lib.hid (notS (f := f) (k := k) (k' := k) (t := t) (t' := t) (n := n) (n' := n') (r := r) (r' := r') (l := l) (l' := l') (a := a) (a' := a') (m := m) (m' := m') (s := s) (s' := s') fun h => hl h.2.2.2.2.2.1)
   have hL : (((l.length : Nat) : Int) != ((l'.length : Nat) : Int)) = true := by rw [bne_iff_ne]; omega
   clear hl
   go_wp2_with fail
   go_ret
   exact ⟨by rw [HNO.out]; rfl, HBw3.out⟩
  have hL : (((l.length : Nat) : Int) != ((l.length : Nat) : Int)) = false := by simp
  rw [← hl] at HX1w3 b4
  have HL := Lib.hid hl
  clear hl
  go_wp2_with fail
  clear a0 a1 a2 a3 a4 a5 a6 a7 b0 b1 b2 b3 b4 b5 b6 b7 hL HX0w1 HX1w1 HX0w2 HX1w2 HBw1 HBw2 HQ0 HQ1 HBB
  have hlt1 : w.heap.size + 1 < w3.heap.size := (Array.getElem?_eq_some_iff.1 HX1w3.out).1
  go_loopw [5] (fun v wr => ∃ i : Nat, i ≤ l.length ∧ v = .int .i64 (i : Nat) ∧ (∀ (j : Nat) (h : j < l.length) (h' : j < l'.length), j < i → sameS f (l[j]'h) (l'[j]'h') = true) ∧ Below w3.heap.size w3 wr) (fun v _ => l.length - (intOf v).toNat)
  case atStart => exact ⟨0, Nat.zero_le _, rfl, fun j _ _ h => by omega, Below.refl _ _⟩
  case round =>
   obtain ⟨i, hi, rfl, hall, hbel⟩ := hrel
   have hmx := HMX.out
   have HALL := Lib.hid hall
   have HBL := Lib.hid hbel
   have HBR := Lib.hid (HBw3.out.trans (hbel.mono HBw3.out.size))
   have g0 := (rowS8 ((hbel.block w.heap.size (by omega)).trans HX0w3.out)).2.2.2.2.1
   have g1 := (rowS8 ((hbel.block (w.heap.size + 1) hlt1).trans HX1w3.out)).2.2.2.2.1
   clear hall hbel
   by_cases hin : i < l.length
   . have hii : ((i : Nat) : Int) < ((l.length : Nat) : Int) := by omega
     have hii' : ((i : Nat) : Int) < ((l'.length : Nat) : Int) := by have := HL.out; omega
     obtain ⟨b, off, cap, v0, v1, v2, v3, v4, v5, v6, v7, hav, _, _, hly, p0, p1, p2, p3, p4, p5, p6, p7⟩ := row_sx (HW1.out.below HBR.out) (fun j h => (HI1.out j h).keep HBR.out) hin
     obtain ⟨b', off', cap', u0, u1, u2, u3, u4, u5, u6, u7, hav', _, _, hly', q0, q1, q2, q3, q4, q5, q6, q7⟩ := row_sx (HW2.out.below HBR.out) (fun j h => (HI2.out j h).keep HBR.out) (i := i) (by have := HL.out; omega)
     rw [← HL.out] at hav'
     simp only [Value.slice.injEq, true_and] at hav hav'
     obtain ⟨rfl, rfl⟩ := hav
     obtain ⟨rfl, rfl⟩ := hav'
     have HY1 := Lib.hid (hly.keep (Below.refl wr.heap.size wr).drew)
     have HY2 := Lib.hid (hly'.keep (Below.refl wr.heap.size wr).drew)
     have HBd := Lib.hid HBL.out.drew
     clear hly hly'
     go_wp2_with fail
     go_still_tail 10, (by kernel_rfl)
     change wpList _ _ _ _ _ wr.drew
     clear p0 p1 p2 p3 p4 p5 p6 p7 q0 q1 q2 q3 q4 q5 q6 q7 g0 g1
     generalize wr.drew = W2 at *
     go_wp2_with fail
     refine (HIH.out (l[i]'hin) (l'[i]'(by have := HL.out; omega)) (HL4.out i hin) [v0, v1, v2, v3, v4, v5, v6, v7] [u0, u1, u2, u3, u4, u5, u6, u7] _ HY1.out HY2.out).mono ?_
     rintro e w4 ⟨rfl, hb3⟩
     have HB3 := Lib.hid (HBd.out.trans (hb3.mono HBd.out.size))
     clear hb3
     cases hs : sameS f (l[i]'hin) (l'[i]'(by have := HL.out; omega)) with
     | false =>
      have HNO := Lib.hid (notS (f := f) (k := k) (k' := k) (t := t) (t' := t) (n := n) (n' := n') (r := r) (r' := r') (l := l) (l' := l') (a := a) (a' := a') (m := m) (m' := m') (s := s) (s' := s') fun h => by have := h.2.2.2.2.2.2 i hin (by have := HL.out; omega); rw [hs] at this; cases this)
      clear hs
      go_wp2_with fail
      go_ret
      exact ⟨by rw [HNO.out]; rfl, HBw3.out.trans (HB3.out.mono HBw3.out.size)⟩
     | true =>
      have HS := Lib.hid hs
      clear hs
      go_wp2_with fail
      go_roundw
      case measure => simp only [intOf]; omega
      case rel =>
       refine ⟨i + 1, by omega, by go_num, fun j h h' hj => ?_, HB3.out⟩
       rcases Nat.lt_or_eq_of_le (Nat.le_of_lt_succ hj) with h2 | h2
       . exact HALL.out j h h' h2
       . subst h2; exact HS.out
   . obtain rfl : i = l.length := by omega
     have HYES := Lib.hid (sameS_iff.2 ⟨rfl, rfl, HNw1.out, HNw2.out, HNw3.out, HL.out, fun j h h' => HALL.out j h h' h⟩ : sameS (f + 1) (.mk k t n r l a m s) (.mk k t n' r' l' a' m' s') = true)
     go_wp2_with fail
     go_ret
     exact ⟨by rw [HYES.out]; rfl, HBR.out⟩
end Go.Proofs.YtbfcbicbeagjkaaGreatDoor
namespace Go.Proofs.YtbfcbicbeagjkaaGreatDoor
open Go.RowKit
theorem infoDat : (Tryz.prog.info? 27).map (fun i => (i.zero, i.size, i.bytes)) = some (some (.agg #[.int .i64 0, .string ⟨#[]⟩, .bool false, .slice none 0 0, .slice none 0 0, .int .i64 0]), 6, 88) := by kernel_rfl
theorem DmRow.appended {P : Nat → Prop} {w w' : World} {v v' : Value} {l : List Dm} {us : List Value} {d : Dm} {cs : List Value} (h : DmRow (fun b => P b ∧ v.ownBlock ≠ some b) w l us) (hd : LayP (fun b => P b ∧ v.ownBlock ≠ some b) w d cs) (hg : w.grownBy w' v.ownBlock) (hm : MovedTo w v v') :
 DmRow (fun b => P b ∧ v'.ownBlock ≠ some b) w' (l ++ [d]) (us ++ cs) := by
 have hk : Keeps (fun b => P b ∧ v.ownBlock ≠ some b) w w' := (Keeps.of_grown (P := fun b => v.ownBlock ≠ some b) hg fun g e hn => hn e).mono fun b _ h => h.2
 have hs := hg.size
 have hq : ∀ b, b < w.heap.size → (P b ∧ v.ownBlock ≠ some b) → (P b ∧ v.ownBlock ≠ some b) ∧ v'.ownBlock ≠ some b := fun b hb hp => ⟨hp, fun e => by
  rcases hm with e2 | ⟨b2, e2, hge⟩
  . rw [e2] at e; exact hp.2 e
  . rw [e2] at e; injection e with e; omega⟩
 have hk2 : Keeps (fun b => (P b ∧ v.ownBlock ≠ some b) ∧ v'.ownBlock ≠ some b) w w' := hk.mono fun b _ h => h.1
 have h2 := ((h.mono hq).move hk2).snoc ((hd.mono hq).move hk2)
 exact h2.mono fun b _ hp => ⟨hp.1.1, hp.2⟩
theorem one_cells {w : World} {P : Nat → Prop} {d : Dm} {us : List Value} (h : LayP P w d us) : ∀ u ∈ us, u.oneCell' = true := by
 obtain ⟨k, t, n, r, l, a⟩ := d
 obtain ⟨lv, av, vs, rfl, _, _, _, ⟨_, _, _, rfl, _⟩, _, ⟨_, _, _, _, rfl, _⟩, _⟩ := h.row
 intro u hu
 simp at hu
 rcases hu with rfl | rfl | rfl | rfl | rfl | rfl <;> rfl
theorem dm_cells6 {w : World} {P : Nat → Prop} {d : Dm} {us : List Value} (h : LayP P w d us) : ∃ u0 u1 u2 u3 u4 u5, us = [u0, u1, u2, u3, u4, u5] := by
 have := h.len
 match us, this with
 | [u0, u1, u2, u3, u4, u5], _ => exact ⟨u0, u1, u2, u3, u4, u5, rfl⟩
def OwnPost (D : Dm) (w : World) (e : Ending) (w' : World) : Prop := ∃ us, e = .returned (.agg us.toArray) ∧ LayP (fun b => w.heap.size ≤ b) w' D us ∧ Below w.heap.size w w'
structure OwB (w : World) (g : Nat) (k : Int) (t : List Nat) (n : Bool) (lv av : Value) (a : Int) : Prop where
 r0 : w.heap[g]? = some (.cells #[.int .i64 k, .string (mkB t), .bool n, lv, av, .int .i64 a] 27 (0, 0))
 r1 : w.heap[g + 1]? = some (.cells #[.int .i64 0, .string ⟨#[]⟩, .bool false, .slice none 0 0, .slice none 0 0, .int .i64 0] 27 (0, 0))
theorem row1 (w : World) (cs : List Value) (h : cs.length = 6) : RowV (w.alloc (.cells cs.toArray 27)) (.slice (some ⟨w.heap.size, 0, none⟩) 1 1) 1 6 cs := by
 refine ⟨by omega, by unfold maxLen; omega, some ⟨w.heap.size, 0, none⟩, 1, rfl, Nat.le_refl _, .inr ⟨w.heap.size, 0, rfl, by simp, fun j u hu => ?_⟩⟩
 rw [cell_of_row _ w.heap.size (0 + j) _ _ (0, 0) (heap_alloc_new w _), Nat.zero_add]
 simpa using hu
end Go.Proofs.YtbfcbicbeagjkaaGreatDoor
