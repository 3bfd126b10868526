/- Identifiers that are built: which they are. No walk here. | ref02.Others, ref09.bare: is an Other in a datum; the document's datum of a piece. -/
import Derived.Test.YtbfcbicbeagjkaaGreatDoorSxJn
import Derived.Test.YtbfcbicbeagjkaaGreatDoorTkAns
import Derived.Test.YtbfcbicbeagjkaaGreatDoorWpCat
namespace Go.Proofs.YtbfcbicbeagjkaaGreatDoor
open Go.RowKit

theorem wjA_nilL {m s : List Int} (h : sndW m s = true) : wjA [] [] m s = (m, s, 0) := by
  rw [joinA_ok sndW_nil h]
  have e : endB [] [] = false := by decide
  rw [e, Bool.false_and]
  have e2 : marryA false [] [] m s = (m, s) := by unfold marryA cutL cutF; simp
  rw [e2]
  refine closeA_ok ?_ (sndW_snd h)
  unfold sndW at h
  rw [Bool.and_eq_true] at h
  simpa using h.1
/-- A text of one letter. -/
theorem symbA_let {c : Nat} (h : 97 ≤ c ∧ c ≤ 122) : symbA [c] = true := by
  have hlow : encL [c] = [c] := by
    have h1 : encN c = [c] := by unfold encN; rw [if_pos (by omega)]
    show encN c ++ encL [] = _
    rw [h1]; rfl
  have hch : chars [c] 0 = ([c], none) := by
    have := chars_enc [c] fun x hx => by rw [List.mem_singleton] at hx; unfold scN; omega
    rwa [hlow] at this
  have hy : symA [c] = true := by
    refine symA_yes (by simp) (by simp; omega) (by simp) (by simp [limb]; omega) ?_ (by rw [hch]) ?_
    · unfold numeA digN sgnN
      simp [limb]
      omega
    · rw [hch]
      have : ¬ (enN c = true) := by unfold enN enB; simp; omega
      simpa using this
  unfold symbA
  rw [atmA_symb (by intro i; match i with | 0 => simp [limb]; omega | i + 1 => simp [limb]) hy]
  rfl
theorem idB_leaf {t : ByteArray} {c : Nat} (ht : byt t = [c]) (hc : 97 ≤ c ∧ c ≤ 122) {a : Int} {m s : List Int} (hw : sndW m s = true) : idB (.mk 4 t false [] [] a m s) = true := by
  have hs : sndD (dtm (.mk 4 t false [] [] a m s)) = true := by
    rw [dtm_mk, ht]
    unfold sndD
    rw [okD_leaf (by omega) (by omega), wrtA_sym, symbA_let hc]
    have : (Dm.mk 4 [c] false [] (List.map dtm []) a).sz = 1 := by rw [Dm.sz_eq]; rfl
    rw [this]
    rfl
  have ho : othB (dtm (.mk 4 t false [] [] a m s)) = false := by
    rw [dtm_mk]
    exact othB_no (by decide) fun j h => by simp at h
  have hj : jnsB [] [] (.mk 4 t false [] [] a m s) = true := by
    rw [jnsB_mk, innA_eq sndW_nil, wjA_nilL hw]
    rfl
  unfold idB sndX
  rw [hs, ho, hj]
  rfl
def aB : ByteArray := ⟨#[97]⟩
theorem aB_byt : byt aB = [97] := by decide
end Go.Proofs.YtbfcbicbeagjkaaGreatDoor
namespace Go.Proofs.YtbfcbicbeagjkaaGreatDoor
open Go.RowKit

set_option maxRecDepth 100000 in
set_option maxHeartbeats 4000000 in
theorem others_any : ∀ (m : Nat) (D : Dm), D.sz ≤ m → ∀ (us : List Value) (w : World), Lay w D us → Calls Tryz.prog 18 #[.agg us.toArray] w fun e w' => e = .returned (.bool (othB D)) ∧ Below w.heap.size w w' := by
  intro m
  induction m with
  | zero => intro D h; have := sz_pos D; omega
  | succ m ih =>
    intro D hsz us w h1
    have HIH := Lib.hid ih
    clear ih
    obtain ⟨k, t, n, r, l, a⟩ := D
    have HSZ : Hid (∀ (j : Nat) (h : j < l.length), (l[j]'h).sz ≤ m) := Lib.hid fun j h => by
      have := Dm.sz_mem (d := .mk k t n r l a) (x := l[j]) (List.getElem_mem h)
      omega
    obtain ⟨lv, av, xs, rfl, _, _, _, hr, hrow1, hin1⟩ := h1.open'
    simp only [Dm.k, Dm.t, Dm.n, Dm.r, Dm.l, Dm.a] at hr hrow1 hin1 ⊢
    have HRW := Lib.hid hrow1
    have HIN := Lib.hid hin1
    have hmx : l.length ≤ 9223372036854775807 := by have := hrow1.2.1; unfold maxLen at this; omega
    have HMX := Lib.hid hmx
    obtain ⟨ao, cv0, rfl⟩ : ∃ o c, av = .slice o l.length c := by obtain ⟨_, _, o, c, h, _⟩ := hrow1; exact ⟨o, c, h⟩
    obtain ⟨lo0, lc0, rfl⟩ : ∃ o c, lv = .slice o r.length c := by obtain ⟨_, o, c, h, _⟩ := hr; exact ⟨o, c, h⟩
    clear h1 hr hrow1 hin1 hsz
    have HB1 := Lib.hid (below1 w (.cells #[.int .i64 k, .string (mkB t), .bool n, .slice lo0 r.length lc0, .slice ao l.length cv0, .int .i64 a] 27))
    have HX1 := Lib.hid (heap_alloc_new w (.cells #[.int .i64 k, .string (mkB t), .bool n, .slice lo0 r.length lc0, .slice ao l.length cv0, .int .i64 a] 27))
    show Calls Tryz.prog 18 #[.agg #[.int .i64 k, .string (mkB t), .bool n, .slice lo0 r.length lc0, .slice ao l.length cv0, .int .i64 a]] w _
    go_enter Tryz.func18, Tryz.ntmps18
    go_upto_region 1 with fail
    generalize w.alloc (.cells #[.int .i64 k, .string (mkB t), .bool n, .slice lo0 r.length lc0, .slice ao l.length cv0, .int .i64 a] 27) = w1 at *
    go_wp2_with fail
    go_loopw [3] (fun v wr => ∃ i : Nat, i ≤ l.length ∧ v = .int .i64 (i : Nat) ∧ (∀ (j : Nat) (h : j < l.length), j < i → othB (l[j]'h) = false) ∧ Below w1.heap.size w1 wr) (fun v _ => l.length - (intOf v).toNat)
    case atStart => exact ⟨0, Nat.zero_le _, rfl, fun j _ h => by omega, Below.refl _ _⟩
    case round =>
      obtain ⟨i, hi, rfl, hall, hbl⟩ := hrel
      have hmx := HMX.out
      have HALL := Lib.hid hall
      have HBL := Lib.hid hbl
      have HBR := Lib.hid (HB1.out.trans (hbl.mono HB1.out.size))
      have HXR := Lib.hid ((hbl.block _ (Array.getElem?_eq_some_iff.1 HX1.out).1).trans HX1.out)
      clear hall hbl
      obtain ⟨c0, c1, c2, c3, c4, c5⟩ := row6d HXR.out
      by_cases hin : i < l.length
      · have hii : ((i : Nat) : Int) < ((l.length : Nat) : Int) := by omega
        obtain ⟨b, off, cap', v0, v1, v2, v3, v4, v5, hav, _, _, hly, p0, p1, p2, p3, p4, p5⟩ := row_datum (HRW.out.below HBR.out) (fun j h => (HIN.out j h).keep HBR.out) hin
        simp only [Value.slice.injEq, true_and] at hav
        obtain ⟨rfl, rfl⟩ := hav
        have HY := Lib.hid hly
        clear hly
        go_wp2_with fail
        clear p0 p1 p2 p3 p4 p5 c0 c1 c2 c3 c4 c5
        refine (HIH.out (l[i]'hin) (HSZ.out i hin) [v0, v1, v2, v3, v4, v5] _ HY.out).mono ?_
        rintro e w3 ⟨rfl, hb3⟩
        have HB3 := Lib.hid (HBL.out.trans (hb3.mono HBL.out.size))
        clear hb3
        cases hs : othB (l[i]'hin) with
        | true =>
          have HV := Lib.hid (othB_yes (k := k) (t := t) (n := n) (r := r) (a := a) hin hs)
          clear hs
          go_wp2_with fail
          go_ret
          exact ⟨ret_bl HV.out.symm, HB1.out.trans (HB3.out.mono HB1.out.size)⟩
        | false =>
          have HV := Lib.hid hs
          clear hs
          go_wp2_with fail
          go_roundw
          case measure => simp only [intOf]; omega
          case rel =>
            refine ⟨i + 1, by omega, by go_num, fun j h hj => ?_, HB3.out⟩
            rcases Nat.lt_or_eq_of_le (Nat.le_of_lt_succ hj) with h2 | h2
            · exact HALL.out j h h2
            · subst h2; exact HV.out
      · obtain rfl : i = l.length := by omega
        have HV : Hid (othB (.mk k t n r l a) = (k == 11)) := Lib.hid (by
          by_cases h11 : k = 11
          · subst h11; rw [othB_is]; rfl
          · rw [othB_no h11 fun j h => HALL.out j h h]
            exact (beq_eq_false_iff_ne.2 h11).symm)
        go_wp2_with fail
        go_ret
        exact ⟨ret_bl HV.out.symm, HBR.out⟩

theorem newsp3d {w : World} {a b c : Obj} : (((w.alloc a).alloc b).alloc c).heap[w.heap.size]? = some a ∧ (((w.alloc a).alloc b).alloc c).heap[w.heap.size + 1]? = some b ∧ (((w.alloc a).alloc b).alloc c).heap[w.heap.size + 2]? = some c := by
  refine ⟨?_, ?_, ?_⟩
  · rw [Below.heap_alloc _ _ _ (by simp; omega), Below.heap_alloc _ _ _ (by simp)]; exact heap_alloc_new w _
  · rw [Below.heap_alloc _ _ _ (by simp)]
    have := heap_alloc_new (w.alloc a) b
    simpa using this
  · have := heap_alloc_new ((w.alloc a).alloc b) c
    simpa using this
/-- What the document's bare leaves. -/
def BrPost (N0 f : Nat) (D : Sx) (w : World) (e : Ending) (w' : World) : Prop :=
  (∃ y0 y1 y2 yo yn yc zo zn zc y5, e = .returned (.tuple #[.agg #[.int .i64 y0, .string y1, .bool y2, .slice yo yn yc, .slice zo zn zc, .int .i64 y5], .bool (dpB f D)]) ∧ (dpB f D = true → LayP (fun b => b < N0 ∨ w.heap.size ≤ b) w' (dtm D) [.int .i64 y0, .string y1, .bool y2, .slice yo yn yc, .slice zo zn zc, .int .i64 y5])) ∧ Below w.heap.size w w'

set_option maxRecDepth 100000 in
set_option maxHeartbeats 8000000 in
theorem sbare_any : ∀ (f : Nat) (D : Sx), SmS 1100000 D → f ≤ 64 → ∀ (N0 : Nat) (us : List Value) (w : World), SLayP (fun b => b < N0) w D us → N0 ≤ w.heap.size → Calls Tryz.prog 70 #[.agg us.toArray, .int .i64 (f : Nat)] w (BrPost N0 f D w) := by
  obtain ⟨i0, hi, hz0, hz1, hz2⟩ := info_parts infoDat
  have HI := Lib.hid (And.intro hi (And.intro hz0 (And.intro hz1 hz2)))
  clear hi hz0 hz1 hz2
  intro f
  induction f with
  | zero =>
    intro D hsm _ N0 us w h1 _
    obtain ⟨k, t, n, r, l, a, mm, s⟩ := D
    obtain ⟨lv, av, mv, sv, xs, rfl, _, _, ⟨_, _, lo, lc, rfl, _⟩, _, ⟨_, _, ao, cv0, rfl, _⟩, _, ⟨_, _, mo, mc, rfl, _⟩, _, ⟨_, _, so, sc, rfl, _⟩, _, _⟩ := h1.row
    clear h1 hsm
    have hb1 := below3 w (.cells #[.int .i64 k, .string t, .bool n, .slice lo r.length lc, .slice ao l.length cv0, .int .i64 a, .slice mo mm.length mc, .slice so s.length sc] 35) (.cells #[.int .i64 0, .string ⟨#[]⟩, .bool false, .slice none 0 0, .slice none 0 0, .int .i64 0] 27) (.cells #[.int .i64 k, .string t, .bool n, .slice lo r.length lc, .slice none 0 0, .int .i64 a] 27)
    have hn1 := @newsp3d w (.cells #[.int .i64 k, .string t, .bool n, .slice lo r.length lc, .slice ao l.length cv0, .int .i64 a, .slice mo mm.length mc, .slice so s.length sc] 35) (.cells #[.int .i64 0, .string ⟨#[]⟩, .bool false, .slice none 0 0, .slice none 0 0, .int .i64 0] 27) (.cells #[.int .i64 k, .string t, .bool n, .slice lo r.length lc, .slice none 0 0, .int .i64 a] 27)
    show Calls Tryz.prog 70 #[.agg #[.int .i64 k, .string t, .bool n, .slice lo r.length lc, .slice ao l.length cv0, .int .i64 a, .slice mo mm.length mc, .slice so s.length sc], .int .i64 0] w _
    go_enter Tryz.func70, Tryz.ntmps70
    go_upto_region 2 with fail
    generalize ((w.alloc (.cells #[.int .i64 k, .string t, .bool n, .slice lo r.length lc, .slice ao l.length cv0, .int .i64 a, .slice mo mm.length mc, .slice so s.length sc] 35)).alloc (.cells #[.int .i64 0, .string ⟨#[]⟩, .bool false, .slice none 0 0, .slice none 0 0, .int .i64 0] 27)).alloc (.cells #[.int .i64 k, .string t, .bool n, .slice lo r.length lc, .slice none 0 0, .int .i64 a] 27) = WW at *
    have HBW := Lib.hid hb1
    have HBX := Lib.hid hn1.2.2
    have HRS := Lib.hid hn1.2.1
    clear hb1 hn1

    obtain ⟨e0, e1, e2, e3, e4, e5⟩ := row6d HBX.out
    have hz := HRS.out
    have q0 := frozen_heap hz 0
    have q1 := frozen_heap hz 1
    have q2 := frozen_heap hz 2
    have q3 := frozen_heap hz 3
    have q4 := frozen_heap hz 4
    have q5 := frozen_heap hz 5
    obtain ⟨d0, d1, d2, d3, d4, d5⟩ := row6d hz
    have hrow := put6w_row hz (.int .i64 k) (.string t) (.bool n) (.slice lo r.length lc) (.slice none 0 0) (.int .i64 a)
    have hkp := put6w_keep (fun b => b ≠ w.heap.size + 1) WW (w.heap.size + 1) (by simp) (.int .i64 k) (.string t) (.bool n) (.slice lo r.length lc) (.slice none 0 0) (.int .i64 a)
    have hbf := put6w_below' HBW.out (show w.heap.size ≤ w.heap.size + 1 by omega) (.int .i64 k) (.string t) (.bool n) (.slice lo r.length lc) (.slice none 0 0) (.int .i64 a)
    have HF := Lib.hid (And.intro hrow (And.intro hkp hbf))
    clear hrow hkp hbf hz
    go_wp2_with fail
    clear e0 e1 e2 e3 e4 e5 d0 d1 d2 d3 d4 d5 q0 q1 q2 q3 q4 q5
    unfold put6w at HF
    generalize World.setCell _ ⟨w.heap.size + 1, 5, none⟩ (.int .i64 a) = W9 at *
    obtain ⟨g0, g1, g2, g3, g4, g5⟩ := row6d HF.out.1
    refine bodyPost_ret (v := .tuple #[.agg #[.int .i64 k, .string t, .bool n, .slice lo r.length lc, .slice none 0 0, .int .i64 a], .bool false]) (by simp [results, Tryz.results70, go_sem, g0, g1, g2, g3, g4, g5]) rfl ?_
    exact ⟨⟨_, _, _, _, _, _, _, _, _, _, rfl, fun h => by cases h⟩, HF.out.2.2⟩
  | succ f ih =>
    intro D hsm hf N0 us w h1 hN
    have HIH := Lib.hid ih
    clear ih
    have HN0 := Lib.hid (And.intro hN hf)
    obtain ⟨k, t, n, r, l, a, mm, s⟩ := D
    obtain ⟨hs1, hs2, hs3, _, _, hs6⟩ := hsm.open'
    obtain ⟨lv, av, mv, sv, xs, rfl, hts, hlim, hrr, hrp, hrow1, hap, hrm, _, hrs, _, hin1⟩ := h1.row
    simp only [Sx.k, Sx.t, Sx.n, Sx.r, Sx.l, Sx.a, Sx.m, Sx.s] at hs1 hs2 hs3 hs6
    have HTL := Lib.hid (And.intro hts hlim)
    have HSM := Lib.hid hs6
    have HLL := Lib.hid hs3
    have HI1 := Lib.hid hin1
    have HW1 := Lib.hid hrow1
    have HAP := Lib.hid hap
    have HRR := Lib.hid hrr
    have HRP := Lib.hid hrp
    have hmx : l.length ≤ 9223372036854775807 := by omega
    have HMX := Lib.hid hmx
    have hfr : ((f + 1 : Nat) : Int) - 1 = (f : Nat) := by omega
    have hf0 : (((f + 1 : Nat) : Int) == 0) = false := by rw [beq_eq_false_iff_ne]; omega
    have hfb : ((f + 1 : Nat) : Int) ≤ 64 := by omega
    obtain ⟨ao, cv0, rfl⟩ : ∃ o c, av = .slice o l.length c := by obtain ⟨_, _, o, c, h, _⟩ := hrow1; exact ⟨o, c, h⟩
    obtain ⟨lo, lc, rfl⟩ : ∃ o c, lv = .slice o r.length c := by obtain ⟨_, _, o, c, h, _⟩ := hrr; exact ⟨o, c, h⟩
    obtain ⟨mo, mc, rfl⟩ : ∃ o c, mv = .slice o mm.length c := by obtain ⟨_, _, o, c, h, _⟩ := hrm; exact ⟨o, c, h⟩
    obtain ⟨so, sc, rfl⟩ : ∃ o c, sv = .slice o s.length c := by obtain ⟨_, _, o, c, h, _⟩ := hrs; exact ⟨o, c, h⟩
    clear h1 hsm hs1 hs2 hs3 hs6 hts hlim hrr hrp hrow1 hap hrm hrs hin1 hmx hN hf
    have hb1 := below3 w (.cells #[.int .i64 k, .string t, .bool n, .slice lo r.length lc, .slice ao l.length cv0, .int .i64 a, .slice mo mm.length mc, .slice so s.length sc] 35) (.cells #[.int .i64 0, .string ⟨#[]⟩, .bool false, .slice none 0 0, .slice none 0 0, .int .i64 0] 27) (.cells #[.int .i64 k, .string t, .bool n, .slice lo r.length lc, .slice none 0 0, .int .i64 a] 27)
    have hn1 := @newsp3d w (.cells #[.int .i64 k, .string t, .bool n, .slice lo r.length lc, .slice ao l.length cv0, .int .i64 a, .slice mo mm.length mc, .slice so s.length sc] 35) (.cells #[.int .i64 0, .string ⟨#[]⟩, .bool false, .slice none 0 0, .slice none 0 0, .int .i64 0] 27) (.cells #[.int .i64 k, .string t, .bool n, .slice lo r.length lc, .slice none 0 0, .int .i64 a] 27)
    show Calls Tryz.prog 70 #[.agg #[.int .i64 k, .string t, .bool n, .slice lo r.length lc, .slice ao l.length cv0, .int .i64 a, .slice mo mm.length mc, .slice so s.length sc], .int .i64 ((f + 1 : Nat) : Int)] w _
    generalize ((f + 1 : Nat) : Int) = fz at *
    go_enter Tryz.func70, Tryz.ntmps70
    go_upto_region 2 with fail
    generalize ((w.alloc (.cells #[.int .i64 k, .string t, .bool n, .slice lo r.length lc, .slice ao l.length cv0, .int .i64 a, .slice mo mm.length mc, .slice so s.length sc] 35)).alloc (.cells #[.int .i64 0, .string ⟨#[]⟩, .bool false, .slice none 0 0, .slice none 0 0, .int .i64 0] 27)).alloc (.cells #[.int .i64 k, .string t, .bool n, .slice lo r.length lc, .slice none 0 0, .int .i64 a] 27) = W2 at *
    have HB2 := Lib.hid hb1
    have HX2 := Lib.hid hn1.1
    have HZ2 := Lib.hid hn1.2.1
    have HD2 := Lib.hid hn1.2.2
    have HDS2 : Hid (DatS (fun b => b < N0 ∨ w.heap.size + 2 ≤ b) (w.heap.size + 2) (w.heap.size + 2) W2 (.slice none 0 0) [] (l.map dtm) (.slice none 0 0) 0 [] W2) := Lib.hid
      ⟨World.ownsRow_nil _ _ _ _, by rw [List.take_zero]; exact DmRow.nil _ _, Below.refl _ _, row_nil8 _ _, fun b h => (h rfl).elim, (Array.getElem?_eq_some_iff.1 hn1.2.2).1, Nat.le_refl _⟩
    clear hb1 hn1
    go_wp2_with fail
    go_loopw [7] (fun v wr => ∃ (j : Nat) (us' : List Value) (vv : Value), v = .int .i64 (j : Nat) ∧ j ≤ l.length ∧ (∀ (i : Nat) (h : i < l.length), i < j → dpB f (l[i]'h) = true) ∧ wr.heap[w.heap.size + 2]? = some (.cells #[.int .i64 k, .string t, .bool n, .slice lo r.length lc, vv, .int .i64 a] 27 (0, 0)) ∧ DatS (fun b => b < N0 ∨ w.heap.size + 2 ≤ b) (w.heap.size + 2) (w.heap.size + 2) W2 (.slice none 0 0) [] (l.map dtm) vv j us' wr) (fun v _ => l.length - (intOf v).toNat)
    case atStart => exact ⟨0, [], _, rfl, Nat.zero_le _, fun i _ h => by omega, HD2.out, HDS2.out⟩
    case round =>
      obtain ⟨j, us', vv, rfl, hj, hall, hbx, hds⟩ := hrel
      obtain ⟨vo, vc, rfl⟩ := own_dslice hds.own
      have hmx := HMX.out
      have HALL := Lib.hid hall
      have HBX := Lib.hid hbx
      have HDS := Lib.hid hds
      have HRS := Lib.hid ((hds.bel.block (w.heap.size + 1) (by omega)).trans HZ2.out)
      have HXR := Lib.hid ((hds.bel.block w.heap.size (by omega)).trans HX2.out)
      have HBW : Hid (Below w.heap.size w wr) := Lib.hid (HB2.out.trans (hds.bel.mono (by omega)))
      clear hall hbx hds
      obtain ⟨c0, c1, c2, c3, c4, c5, c6, c7⟩ := rowS8 HXR.out
      by_cases hjl : j < l.length
      · have hii : ((j : Nat) : Int) < ((l.length : Nat) : Int) := by omega
        have hkp : Keeps (fun b => b < N0) w wr := ⟨HBW.out.size, fun b hb _ => HBW.out.block b hb⟩
        obtain ⟨b, off, cap, v0, v1, v2, v3, v4, v5, v6, v7, hav, _, _, hly, p0, p1, p2, p3, p4, p5, p6, p7⟩ := row_sxP (HW1.out.move HAP.out hkp) (HI1.out.move hkp) hjl
        simp only [Value.slice.injEq, true_and] at hav
        obtain ⟨rfl, rfl⟩ := hav
        have HY := Lib.hid hly
        clear hly hkp
        go_wp2_with fail
        clear p0 p1 p2 p3 p4 p5 p6 p7 c0 c1 c2 c3 c4 c5 c6 c7
        refine (HIH.out (l[j]'hjl) (HSM.out j hjl) (by have := HN0.out.2; omega) N0 [v0, v1, v2, v3, v4, v5, v6, v7] _ HY.out (Nat.le_trans HN0.out.1 HBW.out.size)).mono ?_
        rintro e w3 ⟨⟨y0, y1, y2, yo, yn, yc, zo, zn, zc, y5, rfl, hyes⟩, hb3⟩
        have HA3 := Lib.hid hb3
        have HYES := Lib.hid hyes
        have hb4 := below1 w3 (.cells #[.int .i64 y0, .string y1, .bool y2, .slice yo yn yc, .slice zo zn zc, .int .i64 y5] 27)
        have hx4 := heap_alloc_new w3 (.cells #[.int .i64 y0, .string y1, .bool y2, .slice yo yn yc, .slice zo zn zc, .int .i64 y5] 27)
        clear hb3 hyes
        go_upto_region 8 with fail
        generalize w3.alloc (.cells #[.int .i64 y0, .string y1, .bool y2, .slice yo yn yc, .slice zo zn zc, .int .i64 y5] 27) = w4 at *
        have HA4 := Lib.hid (HA3.out.trans (hb4.mono HA3.out.size))
        have H34 := Lib.hid hb4
        have HX4 := Lib.hid hx4
        clear hb4 hx4
        cases hdp : dpB f (l[j]'hjl) with
        | false =>
          have HV := Lib.hid (dpB_not (f := f) (D := .mk k t n r l a mm s) hjl hdp)
          clear hdp
          have HBX := Lib.hid ((HA4.out.block _ HDS.out.lt).trans HBX.out)
          have HRS := Lib.hid ((HA4.out.block _ (Array.getElem?_eq_some_iff.1 HRS.out).1).trans HRS.out)
          have HBW := Lib.hid (HBW.out.trans (HA4.out.mono HBW.out.size))
          generalize hww : w4 = WW at *
          clear hww

          obtain ⟨e0, e1, e2, e3, e4, e5⟩ := row6d HBX.out
          have hz := HRS.out
          have q0 := frozen_heap hz 0
          have q1 := frozen_heap hz 1
          have q2 := frozen_heap hz 2
          have q3 := frozen_heap hz 3
          have q4 := frozen_heap hz 4
          have q5 := frozen_heap hz 5
          obtain ⟨d0, d1, d2, d3, d4, d5⟩ := row6d hz
          have hrow := put6w_row hz (.int .i64 k) (.string t) (.bool n) (.slice lo r.length lc) (.slice vo j vc) (.int .i64 a)
          have hkp := put6w_keep (fun b => b ≠ w.heap.size + 1) WW (w.heap.size + 1) (by simp) (.int .i64 k) (.string t) (.bool n) (.slice lo r.length lc) (.slice vo j vc) (.int .i64 a)
          have hbf := put6w_below' HBW.out (show w.heap.size ≤ w.heap.size + 1 by omega) (.int .i64 k) (.string t) (.bool n) (.slice lo r.length lc) (.slice vo j vc) (.int .i64 a)
          have HF := Lib.hid (And.intro hrow (And.intro hkp hbf))
          clear hrow hkp hbf hz
          go_wp2_with fail
          clear e0 e1 e2 e3 e4 e5 d0 d1 d2 d3 d4 d5 q0 q1 q2 q3 q4 q5
          unfold put6w at HF
          generalize World.setCell _ ⟨w.heap.size + 1, 5, none⟩ (.int .i64 a) = W9 at *
          obtain ⟨g0, g1, g2, g3, g4, g5⟩ := row6d HF.out.1
          refine bodyPost_ret (v := .tuple #[.agg #[.int .i64 k, .string t, .bool n, .slice lo r.length lc, .slice vo j vc, .int .i64 a], .bool false]) (by simp [results, Tryz.results70, go_sem, g0, g1, g2, g3, g4, g5]) rfl ?_
          unfold BrPost
          rw [HV.out]
          exact ⟨⟨_, _, _, _, _, _, _, _, _, _, rfl, fun h => by cases h⟩, HF.out.2.2⟩
        | true =>
          have HV := Lib.hid hdp
          have hly4 := (HYES.out hdp).move (Keeps.of_below H34.out)
          have HL4 := Lib.hid hly4
          have H1 := Lib.hid (one_cells hly4)
          clear hdp hly4
          have hg4 := (HA4.out.block _ HDS.out.lt).trans HBX.out
          have HG4 := Lib.hid hg4
          obtain ⟨e0, e1, e2, e3, e4, e5⟩ := row6d hg4
          obtain ⟨d0, d1, d2, d3, d4, d5⟩ := row6d HX4.out
          have hrow5 := row1 w4 [.int .i64 y0, .string y1, .bool y2, .slice yo yn yc, .slice zo zn zc, .int .i64 y5] rfl
          have HR5 := Lib.hid hrow5
          have H45 := Lib.hid (below1 w4 (.cells #[.int .i64 y0, .string y1, .bool y2, .slice yo yn yc, .slice zo zn zc, .int .i64 y5] 27))
          have HA5 := Lib.hid (HA4.out.trans (H45.out.mono HA4.out.size))
          have HDS5 := Lib.hid (HDS.out.below HA5.out)
          have HG5 := Lib.hid ((HA5.out.block _ HDS.out.lt).trans HBX.out)
          have HLY5 := Lib.hid (HL4.out.move (Keeps.of_below H45.out))
          clear hg4 hrow5
          go_wp2_with (at_builtin; go_loud (refine wpList_append_row _ rfl _ _ 25 rfl (w.heap.size + 2 + 1) 27 i0 _ 6 88 Tryz.underlying25 HI.out.1 HI.out.2.1 HI.out.2.2.1 HI.out.2.2.2 rfl (by decide) _ j us' rfl HDS5.out.own _ 1 [.int .i64 y0, .string y1, .bool y2, .slice yo yn yc, .slice zo zn zc, .int .i64 y5] rfl HR5.out H1.out (by have := HLL.out; unfold maxLen; omega) (by have := HLL.out; omega) (by have := HDS5.out.lt; omega) ?_); go_loud (intro v' w6 hown6 hgrow6 hmv6; obtain ⟨a6, d6, rfl⟩ := own_dslice hown6; have HD6 := Lib.hid (HDS.out.appended HA5.out (d := dtm (l[j]'hjl)) (by simp [hjl]) (HLY5.out.mono fun b hb hp => (by have h1 := HDS.out.lt; have h2 := HN0.out.1; have h3 := HBW.out.size; exact ⟨⟨by omega, by omega⟩, fun e => by have := HDS.out.own.lt b e; omega⟩)) hown6 hgrow6 hmv6); have hg6 := (hgrow6.block _ HDS5.out.lt (fun e => HDS5.out.far (w.heap.size + 2) (by first | exact e | exact e.symm) rfl)).trans HG5.out; have HG6 := Lib.hid hg6; have s4 := cell_heap hg6 4; have z4 := frozen_heap hg6 4; clear hown6 hgrow6 hmv6 hg6))
          go_roundw
          case measure => simp only [intOf]; omega
          case rel =>
            refine ⟨j + 1, us' ++ [.int .i64 y0, .string y1, .bool y2, .slice yo yn yc, .slice zo zn zc, .int .i64 y5], .slice a6 (j + 1) d6, by go_num, by omega, fun i h hi => ?_, (rowSet HG6.out 4 _).trans (by simp), HD6.out.store _⟩
            rcases Nat.lt_or_eq_of_le (Nat.le_of_lt_succ hi) with h2 | h2
            · exact HALL.out i h h2
            · subst h2; exact HV.out
      · obtain rfl : j = l.length := by omega
        have HV := Lib.hid (dpB_yes (f := f) (D := .mk k t n r l a mm s) fun i h => HALL.out i h h)
        clear c0 c1 c2 c6 c7
        obtain ⟨WW, hww⟩ : ∃ WW, WW = wr := ⟨_, rfl⟩
        rw [← hww] at HBX HDS HRS HXR HBW c3 c4 c5 ⊢
        clear hww

        obtain ⟨e0, e1, e2, e3, e4, e5⟩ := row6d HBX.out
        have hz := HRS.out
        have q0 := frozen_heap hz 0
        have q1 := frozen_heap hz 1
        have q2 := frozen_heap hz 2
        have q3 := frozen_heap hz 3
        have q4 := frozen_heap hz 4
        have q5 := frozen_heap hz 5
        obtain ⟨d0, d1, d2, d3, d4, d5⟩ := row6d hz
        have hrow := put6w_row hz (.int .i64 k) (.string t) (.bool n) (.slice lo r.length lc) (.slice vo l.length vc) (.int .i64 a)
        have hkp := put6w_keep (fun b => b ≠ w.heap.size + 1) WW (w.heap.size + 1) (by simp) (.int .i64 k) (.string t) (.bool n) (.slice lo r.length lc) (.slice vo l.length vc) (.int .i64 a)
        have hbf := put6w_below' HBW.out (show w.heap.size ≤ w.heap.size + 1 by omega) (.int .i64 k) (.string t) (.bool n) (.slice lo r.length lc) (.slice vo l.length vc) (.int .i64 a)
        have HF := Lib.hid (And.intro hrow (And.intro hkp hbf))
        clear hrow hkp hbf hz
        go_wp2_with fail
        clear e0 e1 e2 e3 e4 e5 d0 d1 d2 d3 d4 d5 q0 q1 q2 q3 q4 q5
        unfold put6w at HF
        generalize World.setCell _ ⟨w.heap.size + 1, 5, none⟩ (.int .i64 a) = W9 at *
        obtain ⟨g0, g1, g2, g3, g4, g5⟩ := row6d HF.out.1
        have hown9 := ownsRow_keep HDS.out.own HF.out.2.1 fun b hb => by have := (HDS.out.own.lt b hb).1; omega
        have hkp9 : Keeps (fun b => ((b < N0 ∨ w.heap.size + 2 ≤ b) ∧ b ≠ w.heap.size + 2) ∧ (Value.slice vo l.length vc).ownBlock ≠ some b) WW W9 := HF.out.2.1.mono fun b _ hb => by have := hb.1.1; have := HN0.out.1; omega
        have hrow9 := HDS.out.row.move hkp9
        rw [List.take_of_length_le (by simp)] at hrow9
        have hkl : Keeps (fun b => b < N0) w W9 := ⟨HF.out.2.2.size, fun b hb _ => HF.out.2.2.block b hb⟩
        have hlim9 := HRR.out.move HRP.out hkl
        have hfin : LayP (fun b => b < N0 ∨ w.heap.size ≤ b) W9 (.mk k (byt t) n r (l.map dtm) a) [.int .i64 k, .string (mkB (byt t)), .bool n, .slice lo r.length lc, .slice vo l.length vc, .int .i64 a] :=
          .mk (byt_by t) (by rw [byt_len]; exact HTL.out.1) (limb_mem HTL.out.2 (by decide)) hlim9.slu (HRP.out.mono HRR.out.lt fun b _ hb => .inl hb) (by rw [List.length_map]; exact RowV.of_own hown9) (fun b _ hb => by have := (HDS.out.own.lt b hb).1; omega) (fun i hi => (hrow9.each i hi).mono fun b _ hb => by have := hb.1.1; omega)
        rw [byt_mkB] at hfin
        have HFIN := Lib.hid hfin
        clear hown9 hkp9 hrow9 hkl hlim9 hfin
        refine bodyPost_ret (v := .tuple #[.agg #[.int .i64 k, .string t, .bool n, .slice lo r.length lc, .slice vo l.length vc, .int .i64 a], .bool true]) (by simp [results, Tryz.results70, go_sem, g0, g1, g2, g3, g4, g5]) rfl ?_
        unfold BrPost
        rw [HV.out]
        exact ⟨⟨_, _, _, _, _, _, _, _, _, _, rfl, fun _ => by rw [dtm_mk]; exact HFIN.out⟩, HF.out.2.2⟩
end Go.Proofs.YtbfcbicbeagjkaaGreatDoor
