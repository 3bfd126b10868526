/- x -/
import Derived.Test.YtbfcbicbeagjkaaGreatDoorSxPsh
import Derived.Test.YtbfcbicbeagjkaaGreatDoorSxJn
import Derived.Test.YtbfcbicbeagjkaaGreatDoorSxDatum
import Derived.Test.YtbfcbicbeagjkaaGreatDoorRdSize
namespace Go.Proofs.YtbfcbicbeagjkaaGreatDoor
open Go.RowKit
theorem news4a {w : World} {a b c d : Obj} : ((((w.alloc a).alloc b).alloc c).alloc d).heap[w.heap.size]? = some a ∧ ((((w.alloc a).alloc b).alloc c).alloc d).heap[w.heap.size + 1]? = some b ∧ ((((w.alloc a).alloc b).alloc c).alloc d).heap[w.heap.size + 2]? = some c ∧ ((((w.alloc a).alloc b).alloc c).alloc d).heap[w.heap.size + 3]? = some d := by
 have h3 := @newsp3 w a b c
 refine ⟨?_, ?_, ?_, ?_⟩
 . rw [Below.heap_alloc _ _ _ (by (first | (simp; done) | (simp; omega)))]; exact h3.1
 . rw [Below.heap_alloc _ _ _ (by (first | (simp; done) | (simp; omega)))]; exact h3.2.1
 . rw [Below.heap_alloc _ _ _ (by (first | (simp; done) | (simp; omega)))]; exact h3.2.2
 . have := heap_alloc_new (((w.alloc a).alloc b).alloc c) d
   simpa using this
def AlP (f : Nat) (A B : Sx) : Prop := ∀ (us vs : List Value) (w : World) (x y : Value) (m s m' s' : List Int), SLay w A us → SLay w B vs → Wr w x m s → Wr w y m' s' → Calls Tryz.prog 74 #[.agg us.toArray, .agg vs.toArray, x, y] w fun e w' => e = .returned (.bool (alkB f m s m' s' A B)) ∧ Below w.heap.size w w'
set_option maxRecDepth 100000 in
set_option maxHeartbeats 4000000 in
theorem alike1_any (f : Nat) (A B : Sx) (HA : AlP f A B) (b c : Nat) (m s m' s' : List Int) (us vs : List Value) (w : World) (hd : SLay w A us) (he : SLay w B vs) (hb : JnB w b m s) (hc : JnB w c m' s') :
 Calls Tryz.prog 111 #[.agg us.toArray, .agg vs.toArray, .pointer (some ⟨b, 0, none⟩), .pointer (some ⟨c, 0, none⟩)] w fun e w' => e = .returned (.bool (alkB f m s m' s' A B)) ∧ Below w.heap.size w w' := by
 obtain ⟨kx, tx, nx, xo, xn, xc, yo, yn, yc, ax, po, pn, pc, qo, qn, qc, rfl⟩ := sx_shapes hd
 obtain ⟨kz, tz, nz, zo, zn, zc, uo, un, uc, az, vo, vn, vc, wo, wn, wc, rfl⟩ := sx_shapes he
 have HB1 := Lib.hid (below2 w (.cells #[.int .i64 kx, .string tx, .bool nx, .slice xo xn xc, .slice yo yn yc, .int .i64 ax, .slice po pn pc, .slice qo qn qc] 35) (.cells #[.int .i64 kz, .string tz, .bool nz, .slice zo zn zc, .slice uo un uc, .int .i64 az, .slice vo vn vc, .slice wo wn wc] 35))
 have hn := @newsd2 w (.cells #[.int .i64 kx, .string tx, .bool nx, .slice xo xn xc, .slice yo yn yc, .int .i64 ax, .slice po pn pc, .slice qo qn qc] 35) (.cells #[.int .i64 kz, .string tz, .bool nz, .slice zo zn zc, .slice uo un uc, .int .i64 az, .slice vo vn vc, .slice wo wn wc] 35)
 obtain ⟨mv, sv, h1, h2, h3⟩ := hb.below HB1.out
 obtain ⟨mv', sv', h1', h2', h3'⟩ := hc.below HB1.out
 obtain ⟨_, ma, mc, hmv, _, _⟩ := h2.cases
 obtain ⟨_, sa, sc, hsv, _, _⟩ := h3.cases
 obtain ⟨_, mb, md, hmv', _, _⟩ := h2'.cases
 obtain ⟨_, sb, sd, hsv', _, _⟩ := h3'.cases
 generalize m.length = ml at hmv
 generalize s.length = sl at hsv
 generalize m'.length = ml' at hmv'
 generalize s'.length = sl' at hsv'
 subst hmv hsv hmv' hsv'
 have HCALL := Lib.hid (HA _ _ _ (.agg #[.slice ma ml mc, .slice sa sl sc]) (.agg #[.slice mb ml' md, .slice sb sl' sd]) m s m' s' (hd.keep HB1.out) (he.keep HB1.out) ⟨_, _, rfl, h2, h3⟩ ⟨_, _, rfl, h2', h3'⟩)
 obtain ⟨c0, c1, _, _⟩ := rowp2 h1
 obtain ⟨d0, d1, _, _⟩ := rowp2 h1'
 obtain ⟨e0, e1, e2, e3, e4, e5, e6, e7⟩ := rowS8 hn.1
 obtain ⟨g0, g1, g2, g3, g4, g5, g6, g7⟩ := rowS8 hn.2
 clear h1 h2 h3 h1' h2' h3' hb hc hd he HA hn
 show Calls Tryz.prog 111 #[.agg #[.int .i64 kx, .string tx, .bool nx, .slice xo xn xc, .slice yo yn yc, .int .i64 ax, .slice po pn pc, .slice qo qn qc], .agg #[.int .i64 kz, .string tz, .bool nz, .slice zo zn zc, .slice uo un uc, .int .i64 az, .slice vo vn vc, .slice wo wn wc], .pointer (some ⟨b, 0, none⟩), .pointer (some ⟨c, 0, none⟩)] w _
 go_enter Tryz.func111, Tryz.ntmps111
 go_upto_region 1 with fail
 generalize (w.alloc (.cells #[.int .i64 kx, .string tx, .bool nx, .slice xo xn xc, .slice yo yn yc, .int .i64 ax, .slice po pn pc, .slice qo qn qc] 35)).alloc (.cells #[.int .i64 kz, .string tz, .bool nz, .slice zo zn zc, .slice uo un uc, .int .i64 az, .slice vo vn vc, .slice wo wn wc] 35) = w1 at *
 go_wp2_with fail
 refine HCALL.out.mono ?_
 rintro e w3 ⟨rfl, hb3⟩
 have HB3 := Lib.hid (HB1.out.trans (hb3.mono HB1.out.size))
 clear hb3 c0 c1 d0 d1 e0 e1 e2 e3 e4 e5 e6 e7 g0 g1 g2 g3 g4 g5 g6 g7
 go_wp2_with fail
 go_ret
 exact ⟨rfl, HB3.out⟩
def alkL (f : Nat) (m s m' s' : List Int) (l l' : List Sx) : Bool := decide (l.length = l'.length) && (List.range l.length).all fun i => match l[i]?, l'[i]? with
 | some a, some b => alkB f m s m' s' a b
 | _, _ => false
theorem alkL_len {f : Nat} {m s m' s' : List Int} {l l' : List Sx} (h : l.length ≠ l'.length) : alkL f m s m' s' l l' = false := by unfold alkL; rw [decide_eq_false h, Bool.false_and]
theorem alkL_no {f : Nat} {m s m' s' : List Int} {l l' : List Sx} {j : Nat} (h : j < l.length) (h' : j < l'.length) (hn : alkB f m s m' s' (l[j]'h) (l'[j]'h') = false) : alkL f m s m' s' l l' = false := by
 unfold alkL
 rw [Bool.and_eq_false_iff]
 right
 rw [List.all_eq_false]
 refine ⟨j, List.mem_range.2 h, ?_⟩
 rw [List.getElem?_eq_getElem h, List.getElem?_eq_getElem h']
 simp only [hn]; decide
theorem alkL_yes {f : Nat} {m s m' s' : List Int} {l l' : List Sx} (hl : l.length = l'.length) (hall : ∀ (j : Nat) (h : j < l.length) (h' : j < l'.length), alkB f m s m' s' (l[j]'h) (l'[j]'h') = true) : alkL f m s m' s' l l' = true := by
 unfold alkL
 rw [decide_eq_true hl, Bool.true_and, List.all_eq_true]
 intro j hj
 have h : j < l.length := List.mem_range.1 hj
 have h' : j < l'.length := hl ▸ h
 rw [List.getElem?_eq_getElem h, List.getElem?_eq_getElem h']
 exact hall j h h'
set_option maxRecDepth 100000 in
set_option maxHeartbeats 4000000 in
theorem alkeq_any (f : Nat) (b c : Nat) (m s m' s' : List Int) (l l' : List Sx) (HS : ∀ (j : Nat) (h : j < l.length) (h' : j < l'.length), AlP f (l[j]'h) (l'[j]'h')) (av av' : Value) (us us' : List Value) (w : World) (hrow : RowV w av l.length 8 us) (hin : ∀ (i : Nat) (h : i < l.length), SLay w (l[i]'h) ((us.drop (i * 8)).take 8)) (hrow' : RowV w av' l'.length 8 us') (hin' : ∀ (i : Nat) (h : i < l'.length), SLay w (l'[i]'h) ((us'.drop (i * 8)).take 8)) (hj : JnB w b m s) (hk : JnB w c m' s') :
 Calls Tryz.prog 110 #[av, av', .func (.func 111) #[] #[.pointer (some ⟨b, 0, none⟩), .pointer (some ⟨c, 0, none⟩)]] w fun e w' => e = .returned (.bool (alkL f m s m' s' l l')) ∧ Below w.heap.size w w' := by
 have HH := Lib.hid HS; clear HS
 have HRW := Lib.hid hrow
 have HIN := Lib.hid hin
 have HRW' := Lib.hid hrow'
 have HIN' := Lib.hid hin'
 have HJ := Lib.hid hj
 have HK := Lib.hid hk
 have hmx : l.length ≤ 9223372036854775807 := by have := hrow.2.1; unfold maxLen at this; omega
 have hmx' : l'.length ≤ 9223372036854775807 := by have := hrow'.2.1; unfold maxLen at this; omega
 have HMX := Lib.hid (And.intro hmx hmx')
 obtain ⟨ao, cap, rfl⟩ : ∃ o c, av = .slice o l.length c := by obtain ⟨_, _, o, c, h, _⟩ := hrow; exact ⟨o, c, h⟩
 obtain ⟨bo, cap', rfl⟩ : ∃ o c, av' = .slice o l'.length c := by obtain ⟨_, _, o, c, h, _⟩ := hrow'; exact ⟨o, c, h⟩
 clear hrow hin hrow' hin' hj hk
 by_cases hll : l.length = l'.length
 case neg =>
  have hne : ¬ ((l.length : Nat) : Int) = ((l'.length : Nat) : Int) := by omega
  have hnb : (((l.length : Nat) : Int) == ((l'.length : Nat) : Int)) = false := by rw [beq_eq_false_iff_ne]; exact hne
  have HNO := Lib.hid (alkL_len (f := f) (m := m) (s := s) (m' := m') (s' := s') hll)
  clear hll
  go_enter Tryz.func110, Tryz.ntmps110
  go_wp2_with fail
  go_ret
  exact ⟨by rw [HNO.out]; rfl, Below.refl _ _⟩
 have HL := Lib.hid hll
 rw [← hll] at HRW'
 rw [← hll] at hmx' ⊢
 clear hll hmx hmx'
 go_enter Tryz.func110, Tryz.ntmps110
 go_wp2_with fail
 go_loopw [17] (fun v wr => ∃ (i : Nat), i ≤ l.length ∧ v = .int .i64 (i : Nat) ∧ (∀ (j : Nat) (h : j < l.length) (h' : j < l'.length), j < i → alkB f m s m' s' (l[j]'h) (l'[j]'h') = true) ∧ Below w.heap.size w wr) (fun v _ => l.length - (intOf v).toNat)
 case atStart => exact ⟨0, Nat.zero_le _, rfl, fun j _ _ h => by omega, Below.refl _ _⟩
 case round =>
  obtain ⟨i, hi, rfl, hall, hbl⟩ := hrel
  have hmx := HMX.out.1
  have HALL := Lib.hid hall
  have HBL := Lib.hid hbl
  clear hall hbl
  by_cases hin : i < l.length
  . have hii : ((i : Nat) : Int) < ((l.length : Nat) : Int) := by omega
    have hin2 : i < l'.length := by have := HL.out; omega
    obtain ⟨b', off, cap1, v0, v1, v2, v3, v4, v5, v6, v7, hav, _, hbl1, hly, p0, p1, p2, p3, p4, p5, p6, p7⟩ := row_sx (HRW.out.below HBL.out) (fun j h => (HIN.out j h).keep HBL.out) hin
    simp only [Value.slice.injEq, true_and] at hav
    obtain ⟨rfl, rfl⟩ := hav
    have HRW2 := HRW'.out
    rw [HL.out] at HRW2
    obtain ⟨b2, off2, cap2, u0, u1, u2, u3, u4, u5, u6, u7, hav2, _, hbl2, hly2, q0, q1, q2, q3, q4, q5, q6, q7⟩ := row_sx (HRW2.below HBL.out) (fun j h => (HIN'.out j h).keep HBL.out) hin2
    rw [← HL.out] at hav2
    simp only [Value.slice.injEq, true_and] at hav2
    obtain ⟨rfl, rfl⟩ := hav2
    obtain ⟨kx, tx, nx, xo, xn, xc, yo, yn, yc, ax, po, pn, pc, qo, qn, qc, hsh⟩ := sx_shapes hly
    obtain ⟨kz, tz, nz, zo, zn, zc, uo, un, uc, az, vo, vn, vc, wo, wn, wc, hsh2⟩ := sx_shapes hly2
    simp only [List.cons.injEq, and_true] at hsh hsh2
    obtain ⟨rfl, rfl, rfl, rfl, rfl, rfl, rfl, rfl⟩ := hsh
    obtain ⟨rfl, rfl, rfl, rfl, rfl, rfl, rfl, rfl⟩ := hsh2
    have HY := Lib.hid hly
    have HY2 := Lib.hid hly2
    have hba := below2 wr (.cells #[.int .i64 kx, .string tx, .bool nx, .slice xo xn xc, .slice yo yn yc, .int .i64 ax, .slice po pn pc, .slice qo qn qc] 35) (.cells #[.int .i64 kz, .string tz, .bool nz, .slice zo zn zc, .slice uo un uc, .int .i64 az, .slice vo vn vc, .slice wo wn wc] 35)
    have hna := @newsd2 wr (.cells #[.int .i64 kx, .string tx, .bool nx, .slice xo xn xc, .slice yo yn yc, .int .i64 ax, .slice po pn pc, .slice qo qn qc] 35) (.cells #[.int .i64 kz, .string tz, .bool nz, .slice zo zn zc, .slice uo un uc, .int .i64 az, .slice vo vn vc, .slice wo wn wc] 35)
    have hq : ∀ o v, wr.cell? ⟨b2, o, none⟩ = some v → (wr.alloc (.cells #[.int .i64 kx, .string tx, .bool nx, .slice xo xn xc, .slice yo yn yc, .int .i64 ax, .slice po pn pc, .slice qo qn qc] 35)).cell? ⟨b2, o, none⟩ = some v := fun o v h => ((below1 wr (.cells #[.int .i64 kx, .string tx, .bool nx, .slice xo xn xc, .slice yo yn yc, .int .i64 ax, .slice po pn pc, .slice qo qn qc] 35)).cell (p := ⟨b2, o, none⟩) hbl2).trans h
    have s0 := hq _ _ q0
    have s1 := hq _ _ q1
    have s2 := hq _ _ q2
    have s3 := hq _ _ q3
    have s4 := hq _ _ q4
    have s5 := hq _ _ q5
    have s6 := hq _ _ q6
    have s7 := hq _ _ q7
    have HBA := Lib.hid (HBL.out.trans (hba.mono HBL.out.size))
    have HNA := Lib.hid hna
    have HYA := Lib.hid (hly.keep hba)
    have HYB := Lib.hid (hly2.keep hba)
    clear hly hly2 hq hba hna HRW2 HY HY2
    go_upto_region 7 with fail
    clear p0 p1 p2 p3 p4 p5 p6 p7 q0 q1 q2 q3 q4 q5 q6 q7 s0 s1 s2 s3 s4 s5 s6 s7
    generalize (wr.alloc (.cells #[.int .i64 kx, .string tx, .bool nx, .slice xo xn xc, .slice yo yn yc, .int .i64 ax, .slice po pn pc, .slice qo qn qc] 35)).alloc (.cells #[.int .i64 kz, .string tz, .bool nz, .slice zo zn zc, .slice uo un uc, .int .i64 az, .slice vo vn vc, .slice wo wn wc] 35) = wa at *
    obtain ⟨e0, e1, e2, e3, e4, e5, e6, e7⟩ := rowS8 HNA.out.1
    obtain ⟨g0, g1, g2, g3, g4, g5, g6, g7⟩ := rowS8 HNA.out.2
    go_wp2_with fail
    clear e0 e1 e2 e3 e4 e5 e6 e7 g0 g1 g2 g3 g4 g5 g6 g7
    refine (alike1_any f (l[i]'hin) (l'[i]'hin2) (HH.out i hin hin2) b c m s m' s' _ _ wa HYA.out HYB.out (HJ.out.below HBA.out) (HK.out.below HBA.out)).mono ?_
    rintro e w3 ⟨rfl, hb3⟩
    have HB3 := Lib.hid (HBA.out.trans (hb3.mono HBA.out.size))
    clear hb3
    cases hs : alkB f m s m' s' (l[i]'hin) (l'[i]'hin2) with
    | false =>
     have HV := Lib.hid hs
     clear hs
     go_wp2_with fail
     go_ret
     exact ⟨by rw [alkL_no hin hin2 HV.out]; rfl, HB3.out⟩
    | true =>
     have HV := Lib.hid hs
     clear hs
     go_wp2_with fail
     go_roundw
     case measure => simp only [intOf]; omega
     case rel =>
      refine ⟨i + 1, by omega, by go_num, fun j h h' hj => ?_, HB3.out⟩
      rcases Nat.lt_or_eq_of_le (Nat.le_of_lt_succ hj) with h2 | h2
      . exact HALL.out j h h' h2
      . subst h2; exact HV.out
  . obtain rfl : i = l.length := by omega
    go_wp2_with fail
    go_ret
    exact ⟨by rw [alkL_yes HL.out fun j h h' => HALL.out j h h' h]; rfl, HBL.out⟩
set_option maxRecDepth 100000 in
set_option maxHeartbeats 8000000 in
theorem alike_any : ∀ (f : Nat) (A B : Sx), dpB f A = true → AlP f A B := by
 intro f
 induction f with
 | zero => intro A B h; cases h
 | succ f ih =>
  intro A B hdp us vs w x y m s m' s' hd he hx hy
  have HIH := Lib.hid ih
  clear ih
  have HD := Lib.hid hd
  have HE := Lib.hid he
  have HX := Lib.hid hx
  have HY := Lib.hid hy
  obtain ⟨k, t, n, r, l, a, dm, ds⟩ := A
  obtain ⟨k', t', n', r', l', a', dm', ds'⟩ := B
  have HDP : Hid (∀ (j : Nat) (h : j < l.length), dpB f (l[j]'h) = true) := Lib.hid fun j h => by
   unfold dpB at hdp
   exact List.all_eq_true.1 hdp _ (List.getElem_mem h)
  obtain ⟨lv, av, mv, sv, xs, rfl, _, _, ⟨_, _, lo, lc, rfl, _⟩, hrow1, ⟨_, _, mo, mc, rfl, _⟩, ⟨_, _, so, sc, rfl, _⟩, hin1⟩ := hd.open'
  obtain ⟨lv', av', mv', sv', xs', rfl, _, _, ⟨_, _, lo', lc', rfl, _⟩, hrow2, ⟨_, _, mo', mc', rfl, _⟩, ⟨_, _, so', sc', rfl, _⟩, hin2⟩ := he.open'
  simp only [Sx.k, Sx.t, Sx.n, Sx.r, Sx.l, Sx.a, Sx.m, Sx.s] at hrow1 hin1 hrow2 hin2 HD HE ⊢
  have HRW := Lib.hid hrow1
  have HIN := Lib.hid hin1
  have HRW2 := Lib.hid hrow2
  have HIN2 := Lib.hid hin2
  obtain ⟨ao, cv0, rfl⟩ : ∃ o c, av = .slice o l.length c := by obtain ⟨_, _, o, c, h, _⟩ := hrow1; exact ⟨o, c, h⟩
  obtain ⟨ao', cv0', rfl⟩ : ∃ o c, av' = .slice o l'.length c := by obtain ⟨_, _, o, c, h, _⟩ := hrow2; exact ⟨o, c, h⟩
  obtain ⟨wm, ws, rfl, hwm, hws⟩ := hx.cells
  obtain ⟨_, ma, mac, hmv, _, _⟩ := hwm.cases
  obtain ⟨_, sa, sac, hsv, _, _⟩ := hws.cases
  obtain ⟨wm', ws', rfl, hwm', hws'⟩ := hy.cells
  obtain ⟨_, mb, mbc, hmv', _, _⟩ := hwm'.cases
  obtain ⟨_, sb, sbc, hsv', _, _⟩ := hws'.cases
  generalize m.length = ml at hmv
  generalize s.length = sl at hsv
  generalize m'.length = mm at hmv'
  generalize s'.length = sm at hsv'
  subst hmv hsv hmv' hsv'
  clear hd he hx hy hrow1 hin1 hrow2 hin2 hdp hwm hws hwm' hws'
  have hb1 := (below3 w (.cells #[.int .i64 k, .string t, .bool n, .slice lo r.length lc, .slice ao l.length cv0, .int .i64 a, .slice mo dm.length mc, .slice so ds.length sc] 35) (.cells #[.int .i64 k', .string t', .bool n', .slice lo' r'.length lc', .slice ao' l'.length cv0', .int .i64 a', .slice mo' dm'.length mc', .slice so' ds'.length sc'] 35) (.cells #[.slice ma ml mac, .slice sa sl sac] 30)).alloc (by simp; omega) (.cells #[.slice mb mm mbc, .slice sb sm sbc] 30)
  have hn1 := @news4a w (.cells #[.int .i64 k, .string t, .bool n, .slice lo r.length lc, .slice ao l.length cv0, .int .i64 a, .slice mo dm.length mc, .slice so ds.length sc] 35) (.cells #[.int .i64 k', .string t', .bool n', .slice lo' r'.length lc', .slice ao' l'.length cv0', .int .i64 a', .slice mo' dm'.length mc', .slice so' ds'.length sc'] 35) (.cells #[.slice ma ml mac, .slice sa sl sac] 30) (.cells #[.slice mb mm mbc, .slice sb sm sbc] 30)
  show Calls Tryz.prog 74 #[.agg #[.int .i64 k, .string t, .bool n, .slice lo r.length lc, .slice ao l.length cv0, .int .i64 a, .slice mo dm.length mc, .slice so ds.length sc], .agg #[.int .i64 k', .string t', .bool n', .slice lo' r'.length lc', .slice ao' l'.length cv0', .int .i64 a', .slice mo' dm'.length mc', .slice so' ds'.length sc'], .agg #[.slice ma ml mac, .slice sa sl sac], .agg #[.slice mb mm mbc, .slice sb sm sbc]] w _
  go_enter Tryz.func74, Tryz.ntmps74
  go_upto_region 1 with fail
  generalize ((((w.alloc (.cells #[.int .i64 k, .string t, .bool n, .slice lo r.length lc, .slice ao l.length cv0, .int .i64 a, .slice mo dm.length mc, .slice so ds.length sc] 35)).alloc (.cells #[.int .i64 k', .string t', .bool n', .slice lo' r'.length lc', .slice ao' l'.length cv0', .int .i64 a', .slice mo' dm'.length mc', .slice so' ds'.length sc'] 35)).alloc (.cells #[.slice ma ml mac, .slice sa sl sac] 30)).alloc (.cells #[.slice mb mm mbc, .slice sb sm sbc] 30)) = w1 at *
  have HB1 := Lib.hid hb1
  have HN1 := Lib.hid hn1
  clear hb1 hn1
  obtain ⟨c0, c1, c2, c3, c4, c5, c6, c7⟩ := rowS8 HN1.out.1
  obtain ⟨d0, d1, _, _⟩ := rowp2 HN1.out.2.2.1
  go_wp2_with fail
  refine (inner_any _ m s _ _ w1 (HX.out.below HB1.out) (HD.out.keep HB1.out)).mono ?_
  rintro e w2 ⟨⟨y, rfl, hy⟩, hb2⟩
  simp only [Sx.m, Sx.s] at hy ⊢
  obtain ⟨ym, ys, rfl, hym, hys⟩ := hy.cells
  obtain ⟨_, oa, oc, hov, _, _⟩ := hym.cases
  obtain ⟨_, ta, tc, htv, _, _⟩ := hys.cases
  have HBx := Lib.hid (HB1.out.trans (hb2.mono HB1.out.size))
  have mv2 : ∀ g o, w1.heap[g]? = some o → w2.heap[g]? = some o := fun g o h => (hb2.block _ (Array.getElem?_eq_some_iff.1 h).1).trans h
  have HN2 := Lib.hid (And.intro (mv2 _ _ HN1.out.1) (And.intro (mv2 _ _ HN1.out.2.1) (mv2 _ _ HN1.out.2.2.2)))
  have HYY := Lib.hid (And.intro hym hys)
  obtain ⟨q, HQ⟩ : ∃ q, Hid (innA m s dm ds = q) := ⟨_, Lib.hid rfl⟩
  rw [HQ.out] at hov htv HYY ⊢
  generalize hol : q.1.length = ol at hov
  generalize htl : q.2.1.length = tl at htv
  subst hov htv
  clear hol htl hy hym hys hb2 c0 c1 c2 c3 c4 c5 c6 c7 d0 d1 HN1 mv2
  have hb3 := below1 w2 (.cells #[.slice oa ol oc, .slice ta tl tc] 30)
  have hn3 := heap_alloc_new w2 (.cells #[.slice oa ol oc, .slice ta tl tc] 30)
  go_upto_region 2 with fail
  generalize w2.alloc (.cells #[.slice oa ol oc, .slice ta tl tc] 30) = w3 at *
  have HB3 := Lib.hid (HBx.out.trans (hb3.mono HBx.out.size))
  have mv3 : ∀ g o, w2.heap[g]? = some o → w3.heap[g]? = some o := fun g o h => (hb3.block _ (Array.getElem?_eq_some_iff.1 h).1).trans h
  have HN3 := Lib.hid (And.intro (mv3 _ _ HN2.out.1) (And.intro (mv3 _ _ HN2.out.2.1) (mv3 _ _ HN2.out.2.2)))
  obtain ⟨qb, hqb⟩ : ∃ qb, w2.heap.size = qb := ⟨_, rfl⟩
  rw [hqb] at hn3 ⊢
  have HXA := Lib.hid hn3
  have HJ3 : Hid (JnB w3 qb q.1 q.2.1) := Lib.hid ⟨_, _, hn3, HYY.out.1.below (hqb ▸ hb3), HYY.out.2.below (hqb ▸ hb3)⟩
  have HYY3 := Lib.hid (And.intro (HYY.out.1.below (by rw [hqb]; exact hqb ▸ hb3)) (HYY.out.2.below (by rw [hqb]; exact hqb ▸ hb3)))
  clear hb3 hn3 HYY HN2 HBx mv3 hqb
  obtain ⟨c0, c1, c2, c3, c4, c5, c6, c7⟩ := rowS8 HN3.out.2.1
  obtain ⟨d0, d1, _, _⟩ := rowp2 HN3.out.2.2
  go_wp2_with fail
  refine (inner_any _ m' s' _ _ w3 (HY.out.below HB3.out) (HE.out.keep HB3.out)).mono ?_
  rintro e w4 ⟨⟨y, rfl, hy⟩, hb4⟩
  simp only [Sx.m, Sx.s] at hy ⊢
  obtain ⟨ym, ys, rfl, hym, hys⟩ := hy.cells
  obtain ⟨_, pa, pc, hov, _, _⟩ := hym.cases
  obtain ⟨_, ua, uc, htv, _, _⟩ := hys.cases
  have HBx := Lib.hid (HB3.out.trans (hb4.mono HB3.out.size))
  have mv4 : ∀ g o, w3.heap[g]? = some o → w4.heap[g]? = some o := fun g o h => (hb4.block _ (Array.getElem?_eq_some_iff.1 h).1).trans h
  have HN4 := Lib.hid (And.intro (mv4 _ _ HN3.out.1) (And.intro (mv4 _ _ HN3.out.2.1) (mv4 _ _ HXA.out)))
  have HJ4 := Lib.hid (HJ3.out.below hb4)
  have HYY4 := Lib.hid (And.intro (HYY3.out.1.below hb4) (HYY3.out.2.below hb4))
  have HZZ := Lib.hid (And.intro hym hys)
  obtain ⟨p, HP⟩ : ∃ p, Hid (innA m' s' dm' ds' = p) := ⟨_, Lib.hid rfl⟩
  rw [HP.out] at hov htv HZZ ⊢
  generalize hol : p.1.length = pl at hov
  generalize htl : p.2.1.length = ul at htv
  subst hov htv
  clear hol htl hy hym hys hb4 c0 c1 c2 c3 c4 c5 c6 c7 d0 d1 HN3 mv4 HXA HJ3 HYY3
  have hb5 := below1 w4 (.cells #[.slice pa pl pc, .slice ua ul uc] 30)
  have hn5 := heap_alloc_new w4 (.cells #[.slice pa pl pc, .slice ua ul uc] 30)
  go_upto_region 3 with fail
  generalize w4.alloc (.cells #[.slice pa pl pc, .slice ua ul uc] 30) = w5 at *
  have HB5 := Lib.hid (HBx.out.trans (hb5.mono HBx.out.size))
  have mv5 : ∀ g o, w4.heap[g]? = some o → w5.heap[g]? = some o := fun g o h => (hb5.block _ (Array.getElem?_eq_some_iff.1 h).1).trans h
  have HN5 := Lib.hid (And.intro (mv5 _ _ HN4.out.1) (And.intro (mv5 _ _ HN4.out.2.1) (mv5 _ _ HN4.out.2.2)))
  have HJ5 := Lib.hid (HJ4.out.below hb5)
  have HYY5 := Lib.hid (And.intro (HYY4.out.1.below hb5) (HYY4.out.2.below hb5))
  have HZZ5 := Lib.hid (And.intro (HZZ.out.1.below hb5) (HZZ.out.2.below hb5))
  have HK5 : Hid (JnB w5 w4.heap.size p.1 p.2.1) := Lib.hid ⟨_, _, hn5, HZZ5.out.1, HZZ5.out.2⟩
  have HXB := Lib.hid hn5
  clear hb5 hn5 HN4 HJ4 HYY4 HZZ HBx mv5
  obtain ⟨wq, hwq⟩ : ∃ wq, w4.heap.size = wq := ⟨_, rfl⟩
  rw [hwq] at HK5 HXB ⊢
  clear hwq
  obtain ⟨c0, c1, c2, c3, c4, c5, c6, c7⟩ := rowS8 HN5.out.1
  obtain ⟨d0, d1, d2, d3, d4, d5, d6, d7⟩ := rowS8 HN5.out.2.1
  obtain ⟨e0, e1, _, _⟩ := rowp2 HN5.out.2.2
  obtain ⟨g0, g1, _, _⟩ := rowp2 HXB.out
  by_cases hk4 : k = 4
  . have HV : Hid (alkB (f + 1) m s m' s' (.mk k t n r l a dm ds) (.mk k' t' n' r' l' a' dm' ds') = (sameZ q.1 p.1 && sameZ q.2.1 p.2.1)) := Lib.hid (by
     rw [alkB_leaf (x := .mk k t n r l a dm ds) hk4]
     simp only [Sx.m, Sx.s, HQ.out, HP.out]
     unfold sameZ
     rw [Bool.eq_iff_iff]; simp)
    subst hk4
    go_wp2_with fail
    refine (wsame_any _ _ q.1 q.2.1 p.1 p.2.1 w5 ⟨_, _, rfl, HYY5.out.1, HYY5.out.2⟩ ⟨_, _, rfl, HZZ5.out.1, HZZ5.out.2⟩).mono ?_
    rintro e w6 ⟨rfl, hb6⟩
    have HB6 := Lib.hid (HB5.out.trans (hb6.mono HB5.out.size))
    clear hb6 c0 c1 c2 c3 c4 c5 c6 c7 d0 d1 d2 d3 d4 d5 d6 d7 e0 e1 g0 g1
    go_wp2_with fail
    go_ret
    exact ⟨ret_bl HV.out.symm, HB6.out⟩
  . have HV : Hid (alkB (f + 1) m s m' s' (.mk k t n r l a dm ds) (.mk k' t' n' r' l' a' dm' ds') = alkL f q.1 q.2.1 p.1 p.2.1 l l') := Lib.hid (by
     rw [alkB, if_neg (show ¬ (Sx.mk k t n r l a dm ds).k = 4 from hk4)]
     simp only [Sx.m, Sx.s, Sx.l, HQ.out, HP.out]
     rfl)
    have hke : (k == 4) = false := by rw [beq_eq_false_iff_ne]; exact hk4
    go_wp2_with fail
    refine (alkeq_any f qb wq q.1 q.2.1 p.1 p.2.1 l l' (fun j h h' => HIH.out (l[j]'h) (l'[j]'h') (HDP.out j h)) _ _ xs xs' w5 (HRW.out.below HB5.out) (fun j h => (HIN.out j h).keep HB5.out) (HRW2.out.below HB5.out) (fun j h => (HIN2.out j h).keep HB5.out) HJ5.out HK5.out).mono ?_
    rintro e w6 ⟨rfl, hb6⟩
    have HB6 := Lib.hid (HB5.out.trans (hb6.mono HB5.out.size))
    clear hb6 c0 c1 c2 c3 c4 c5 c6 c7 d0 d1 d2 d3 d4 d5 d6 d7 e0 e1 g0 g1
    go_wp2_with fail
    go_ret
    exact ⟨ret_bl HV.out.symm, HB6.out⟩
def isDm (D : Dm) : Value → World → Prop := fun v W => ∃ us, v = .agg us.toArray ∧ Lay W D us
theorem isDm_stays (D : Dm) : Stays (isDm D) := fun _ _ _ hb ⟨us, h1, h2⟩ => ⟨us, h1, h2.keep hb⟩
set_option maxRecDepth 100000 in
set_option maxHeartbeats 16000000 in
theorem xsame_any (D E : Sx) (us vs : List Value) (w : World) (hd : SLay w D us) (he : SLay w E vs) (hsm : SmS 1100000 D) (hsm2 : SmS 1100000 E) (ht : Tabs w) :
 Calls Tryz.prog 31 #[.agg us.toArray, .agg vs.toArray] w fun e w' => e = .returned (.bool (samX D E)) ∧ Below w.heap.size w w' := by
 have HD := Lib.hid hd
 have HE := Lib.hid he
 have HSM := Lib.hid (And.intro hsm hsm2)
 have HT := Lib.hid ht
 obtain ⟨kx, tx, nx, xo, xn, xc, yo, yn, yc, ax, po, pn, pc, qo, qn, qc, rfl⟩ := sx_shapes hd
 obtain ⟨kz, tz, nz, zo, zn, zc, uo, un, uc, az, vo, vn, vc, wo, wn, wc, rfl⟩ := sx_shapes he
 clear hd he hsm hsm2 ht
 have hb1 := below2 w (.cells #[.int .i64 kx, .string tx, .bool nx, .slice xo xn xc, .slice yo yn yc, .int .i64 ax, .slice po pn pc, .slice qo qn qc] 35) (.cells #[.int .i64 kz, .string tz, .bool nz, .slice zo zn zc, .slice uo un uc, .int .i64 az, .slice vo vn vc, .slice wo wn wc] 35)
 have hn1 := @newsd2 w (.cells #[.int .i64 kx, .string tx, .bool nx, .slice xo xn xc, .slice yo yn yc, .int .i64 ax, .slice po pn pc, .slice qo qn qc] 35) (.cells #[.int .i64 kz, .string tz, .bool nz, .slice zo zn zc, .slice uo un uc, .int .i64 az, .slice vo vn vc, .slice wo wn wc] 35)
 show Calls Tryz.prog 31 #[.agg #[.int .i64 kx, .string tx, .bool nx, .slice xo xn xc, .slice yo yn yc, .int .i64 ax, .slice po pn pc, .slice qo qn qc], .agg #[.int .i64 kz, .string tz, .bool nz, .slice zo zn zc, .slice uo un uc, .int .i64 az, .slice vo vn vc, .slice wo wn wc]] w _
 obtain ⟨res, HRES⟩ : ∃ b, Hid (samX D E = b) := ⟨_, Lib.hid rfl⟩
 rw [HRES.out]
 go_enter Tryz.func31, Tryz.ntmps31
 go_upto_region 1 with fail
 generalize (w.alloc (.cells #[.int .i64 kx, .string tx, .bool nx, .slice xo xn xc, .slice yo yn yc, .int .i64 ax, .slice po pn pc, .slice qo qn qc] 35)).alloc (.cells #[.int .i64 kz, .string tz, .bool nz, .slice zo zn zc, .slice uo un uc, .int .i64 az, .slice vo vn vc, .slice wo wn wc] 35) = w1 at *
 have HB := Lib.hid hb1
 have HN := Lib.hid hn1
 have HLT := Lib.hid (And.intro (Array.getElem?_eq_some_iff.1 hn1.1).1 (Array.getElem?_eq_some_iff.1 hn1.2).1)
 clear hb1 hn1
 obtain ⟨al, HAL⟩ : ∃ b, Hid (alkB 100 [] [] [] [] D E = b) := ⟨_, Lib.hid rfl⟩
 cases hsa : sndX D with
 | false =>
  have HSA := Lib.hid hsa
  clear hsa
  have HF : Hid (res = false) := Lib.hid (by rw [← HRES.out]; unfold samX; rw [HSA.out]; rfl)
  clear HRES
  refine wp_region_slotsG (psi [isV (.agg #[.int .i64 kx, .string tx, .bool nx, .slice xo xn xc, .slice yo yn yc, .int .i64 ax, .slice po pn pc, .slice qo qn qc]), isV (.bool false), isV (.bool false), isV undef, isV undef, isV (.bool false), isV (.bool false), isV undef, isV undef, isV undef, isV undef, isV undef, isV (.bool false), isV (.bool false), isV undef, isV undef, isV undef, isV undef, isV undef, isV (.bool false), isV (.bool false)]) (fun W => Below w1.heap.size w1 W) (by kernel_rfl) (Below.refl _ _).drew (psi_mono ?_) (by kernel_rfl) (by kernel_rfl) ?_ ?_
  . intro pq hp
    simp only [List.mem_cons, List.not_mem_nil, or_false] at hp
    (repeat' rcases hp with rfl | hp) <;> first | exact isV_stays _ | (subst hp; exact isV_stays _) | exact isDm_stays _ | (subst hp; exact isDm_stays _)
  . refine AllOps.cons ?_ ?_
    . intro ab W hC hB hdep
      refine .inl ⟨rfl, ?_⟩
      have b0 : ab.tmps.getD 2 undef = .pointer (some ⟨w.heap.size, 0, none⟩) := hB.off 2 (by kernel_rfl)
      obtain ⟨c0, c1, c2, c3, c4, c5, c6, c7⟩ := rowS8 ((hC.block _ HLT.out.1).trans HN.out.1)
      clear hB hdep
      refine goes_value (v := .agg #[.int .i64 kx, .string tx, .bool nx, .slice xo xn xc, .slice yo yn yc, .int .i64 ax, .slice po pn pc, .slice qo qn qc]) ?_ hC rfl
      simp only [execOp, Act.eval, b0]
      go_simp
    refine AllOps.cons ?_ ?_
    . intro ab W hC hB hdep
      refine .inl ⟨rfl, ?_⟩
      obtain ⟨x0, (q0 : (isV (.agg #[.int .i64 kx, .string tx, .bool nx, .slice xo xn xc, .slice yo yn yc, .int .i64 ax, .slice po pn pc, .slice qo qn qc])) x0 W), e0⟩ := hdep 0 5 (by kernel_rfl)
      obtain rfl : x0 = .agg #[.int .i64 kx, .string tx, .bool nx, .slice xo xn xc, .slice yo yn yc, .int .i64 ax, .slice po pn pc, .slice qo qn qc] := q0
      clear hB hdep
      refine goes_call (f := 62) (args := #[.agg #[.int .i64 kx, .string tx, .bool nx, .slice xo xn xc, .slice yo yn yc, .int .i64 ax, .slice po pn pc, .slice qo qn qc]]) ?_ ?_
      . simp only [execOp]
        go_simp
      . exact (xsound_any D _ W (HD.out.keep (HB.out.trans (hC.mono HB.out.size))) HSM.out.1 (HT.out.below (HB.out.trans (hC.mono HB.out.size)) (Nat.le_refl _))).mono fun e w7 ⟨he, hb⟩ => ⟨_, he, hC.trans (hb.mono hC.size), hb, by show Value.bool _ = _; rw [HSA.out]⟩
    refine AllOps.cons ?_ ?_
    . intro ab W hC hB hdep
      refine .inl ⟨rfl, ?_⟩
      obtain ⟨x0, (q0 : (isV (.bool false)) x0 W), e0⟩ := hdep 1 6 (by kernel_rfl)
      obtain rfl : x0 = .bool false := q0
      clear hB hdep
      refine goes_value (v := .bool false) ?_ hC rfl
      simp only [execOp, Act.eval, e0]
      go_simp
    refine AllOps.cons ?_ ?_
    . intro ab W hC hB hdep
      obtain ⟨xg, (qg : xg = .bool false), eg⟩ := hdep 2 7 (by kernel_rfl)
      subst qg
      exact .inr ⟨((wanted_is (g := 2) (t := 7) (b := true) (c := false) rfl rfl (by rw [hB.size]; exact Nat.le_of_ble_eq_true rfl) eg).trans rfl), rfl⟩
    refine AllOps.cons ?_ ?_
    . intro ab W hC hB hdep
      obtain ⟨xg, (qg : xg = .bool false), eg⟩ := hdep 2 7 (by kernel_rfl)
      subst qg
      exact .inr ⟨((wanted_is (g := 2) (t := 7) (b := true) (c := false) rfl rfl (by rw [hB.size]; exact Nat.le_of_ble_eq_true rfl) eg).trans rfl), rfl⟩
    refine AllOps.cons ?_ ?_
    . intro ab W hC hB hdep
      refine .inl ⟨rfl, ?_⟩
      obtain ⟨x0, (q0 : (isV (.bool false)) x0 W), e0⟩ := hdep 2 7 (by kernel_rfl)
      obtain rfl : x0 = .bool false := q0
      obtain ⟨x1, (q1 : (isV undef) x1 W), e1⟩ := hdep 4 9 (by kernel_rfl)
      obtain rfl : x1 = undef := q1
      clear hB hdep
      refine goes_value (v := .bool false) ?_ hC rfl
      simp only [execOp, Act.eval, e0, e1]
      go_simp
    refine AllOps.cons ?_ ?_
    . intro ab W hC hB hdep
      refine .inl ⟨rfl, ?_⟩
      obtain ⟨x0, (q0 : (isV (.bool false)) x0 W), e0⟩ := hdep 5 10 (by kernel_rfl)
      obtain rfl : x0 = .bool false := q0
      clear hB hdep
      refine goes_value (v := .bool false) ?_ hC rfl
      simp only [execOp, Act.eval, e0]
      go_simp
    refine AllOps.cons ?_ ?_
    . intro ab W hC hB hdep
      obtain ⟨xg, (qg : xg = .bool false), eg⟩ := hdep 6 11 (by kernel_rfl)
      subst qg
      exact .inr ⟨((wanted_is (g := 6) (t := 11) (b := true) (c := false) rfl rfl (by rw [hB.size]; exact Nat.le_of_ble_eq_true rfl) eg).trans rfl), rfl⟩
    refine AllOps.cons ?_ ?_
    . intro ab W hC hB hdep
      obtain ⟨xg, (qg : xg = .bool false), eg⟩ := hdep 6 11 (by kernel_rfl)
      subst qg
      exact .inr ⟨((wanted_is (g := 6) (t := 11) (b := true) (c := false) rfl rfl (by rw [hB.size]; exact Nat.le_of_ble_eq_true rfl) eg).trans rfl), rfl⟩
    refine AllOps.cons ?_ ?_
    . intro ab W hC hB hdep
      obtain ⟨xg, (qg : xg = .bool false), eg⟩ := hdep 6 11 (by kernel_rfl)
      subst qg
      exact .inr ⟨((wanted_is (g := 6) (t := 11) (b := true) (c := false) rfl rfl (by rw [hB.size]; exact Nat.le_of_ble_eq_true rfl) eg).trans rfl), rfl⟩
    refine AllOps.cons ?_ ?_
    . intro ab W hC hB hdep
      obtain ⟨xg, (qg : xg = .bool false), eg⟩ := hdep 6 11 (by kernel_rfl)
      subst qg
      exact .inr ⟨((wanted_is (g := 6) (t := 11) (b := true) (c := false) rfl rfl (by rw [hB.size]; exact Nat.le_of_ble_eq_true rfl) eg).trans rfl), rfl⟩
    refine AllOps.cons ?_ ?_
    . intro ab W hC hB hdep
      obtain ⟨xg, (qg : xg = .bool false), eg⟩ := hdep 6 11 (by kernel_rfl)
      subst qg
      exact .inr ⟨((wanted_is (g := 6) (t := 11) (b := true) (c := false) rfl rfl (by rw [hB.size]; exact Nat.le_of_ble_eq_true rfl) eg).trans rfl), rfl⟩
    refine AllOps.cons ?_ ?_
    . intro ab W hC hB hdep
      refine .inl ⟨rfl, ?_⟩
      obtain ⟨x0, (q0 : (isV (.bool false)) x0 W), e0⟩ := hdep 6 11 (by kernel_rfl)
      obtain rfl : x0 = .bool false := q0
      obtain ⟨x1, (q1 : (isV undef) x1 W), e1⟩ := hdep 11 16 (by kernel_rfl)
      obtain rfl : x1 = undef := q1
      clear hB hdep
      refine goes_value (v := .bool false) ?_ hC rfl
      simp only [execOp, Act.eval, e0, e1]
      go_simp
    refine AllOps.cons ?_ ?_
    . intro ab W hC hB hdep
      refine .inl ⟨rfl, ?_⟩
      obtain ⟨x0, (q0 : (isV (.bool false)) x0 W), e0⟩ := hdep 12 17 (by kernel_rfl)
      obtain rfl : x0 = .bool false := q0
      clear hB hdep
      refine goes_value (v := .bool false) ?_ hC rfl
      simp only [execOp, Act.eval, e0]
      go_simp
    refine AllOps.cons ?_ ?_
    . intro ab W hC hB hdep
      obtain ⟨xg, (qg : xg = .bool false), eg⟩ := hdep 13 18 (by kernel_rfl)
      subst qg
      exact .inr ⟨((wanted_is (g := 13) (t := 18) (b := true) (c := false) rfl rfl (by rw [hB.size]; exact Nat.le_of_ble_eq_true rfl) eg).trans rfl), rfl⟩
    refine AllOps.cons ?_ ?_
    . intro ab W hC hB hdep
      obtain ⟨xg, (qg : xg = .bool false), eg⟩ := hdep 13 18 (by kernel_rfl)
      subst qg
      exact .inr ⟨((wanted_is (g := 13) (t := 18) (b := true) (c := false) rfl rfl (by rw [hB.size]; exact Nat.le_of_ble_eq_true rfl) eg).trans rfl), rfl⟩
    refine AllOps.cons ?_ ?_
    . intro ab W hC hB hdep
      obtain ⟨xg, (qg : xg = .bool false), eg⟩ := hdep 13 18 (by kernel_rfl)
      subst qg
      exact .inr ⟨((wanted_is (g := 13) (t := 18) (b := true) (c := false) rfl rfl (by rw [hB.size]; exact Nat.le_of_ble_eq_true rfl) eg).trans rfl), rfl⟩
    refine AllOps.cons ?_ ?_
    . intro ab W hC hB hdep
      obtain ⟨xg, (qg : xg = .bool false), eg⟩ := hdep 13 18 (by kernel_rfl)
      subst qg
      exact .inr ⟨((wanted_is (g := 13) (t := 18) (b := true) (c := false) rfl rfl (by rw [hB.size]; exact Nat.le_of_ble_eq_true rfl) eg).trans rfl), rfl⟩
    refine AllOps.cons ?_ ?_
    . intro ab W hC hB hdep
      obtain ⟨xg, (qg : xg = .bool false), eg⟩ := hdep 13 18 (by kernel_rfl)
      subst qg
      exact .inr ⟨((wanted_is (g := 13) (t := 18) (b := true) (c := false) rfl rfl (by rw [hB.size]; exact Nat.le_of_ble_eq_true rfl) eg).trans rfl), rfl⟩
    refine AllOps.cons ?_ ?_
    . intro ab W hC hB hdep
      refine .inl ⟨rfl, ?_⟩
      obtain ⟨x0, (q0 : (isV (.bool false)) x0 W), e0⟩ := hdep 13 18 (by kernel_rfl)
      obtain rfl : x0 = .bool false := q0
      obtain ⟨x1, (q1 : (isV undef) x1 W), e1⟩ := hdep 18 23 (by kernel_rfl)
      obtain rfl : x1 = undef := q1
      clear hB hdep
      refine goes_value (v := .bool false) ?_ hC rfl
      simp only [execOp, Act.eval, e0, e1]
      go_simp
    refine AllOps.cons ?_ ?_
    . intro ab W hC hB hdep
      refine .inl ⟨rfl, ?_⟩
      obtain ⟨x0, (q0 : (isV (.bool false)) x0 W), e0⟩ := hdep 19 24 (by kernel_rfl)
      obtain rfl : x0 = .bool false := q0
      clear hB hdep
      refine goes_value (v := .bool false) ?_ hC rfl
      simp only [execOp, Act.eval, e0]
      go_simp
    exact trivial
  . intro aa wC hC hB hall
    obtain ⟨v0, (k0 : v0 = .agg #[.int .i64 kx, .string tx, .bool nx, .slice xo xn xc, .slice yo yn yc, .int .i64 ax, .slice po pn pc, .slice qo qn qc]), e0⟩ := hall 0 _ rfl
    obtain ⟨v1, (k1 : v1 = .bool false), e1⟩ := hall 1 _ rfl
    obtain ⟨v2, (k2 : v2 = .bool false), e2⟩ := hall 2 _ rfl
    obtain ⟨v3, (k3 : v3 = undef), e3⟩ := hall 3 _ rfl
    obtain ⟨v4, (k4 : v4 = undef), e4⟩ := hall 4 _ rfl
    obtain ⟨v5, (k5 : v5 = .bool false), e5⟩ := hall 5 _ rfl
    obtain ⟨v6, (k6 : v6 = .bool false), e6⟩ := hall 6 _ rfl
    obtain ⟨v7, (k7 : v7 = undef), e7⟩ := hall 7 _ rfl
    obtain ⟨v8, (k8 : v8 = undef), e8⟩ := hall 8 _ rfl
    obtain ⟨v9, (k9 : v9 = undef), e9⟩ := hall 9 _ rfl
    obtain ⟨v10, (k10 : v10 = undef), e10⟩ := hall 10 _ rfl
    obtain ⟨v11, (k11 : v11 = undef), e11⟩ := hall 11 _ rfl
    obtain ⟨v12, (k12 : v12 = .bool false), e12⟩ := hall 12 _ rfl
    obtain ⟨v13, (k13 : v13 = .bool false), e13⟩ := hall 13 _ rfl
    obtain ⟨v14, (k14 : v14 = undef), e14⟩ := hall 14 _ rfl
    obtain ⟨v15, (k15 : v15 = undef), e15⟩ := hall 15 _ rfl
    obtain ⟨v16, (k16 : v16 = undef), e16⟩ := hall 16 _ rfl
    obtain ⟨v17, (k17 : v17 = undef), e17⟩ := hall 17 _ rfl
    obtain ⟨v18, (k18 : v18 = undef), e18⟩ := hall 18 _ rfl
    obtain ⟨v19, (k19 : v19 = .bool false), e19⟩ := hall 19 _ rfl
    obtain ⟨v20, (k20 : v20 = .bool false), e20⟩ := hall 20 _ rfl
    subst k0 k1 k2 k3 k4 k5 k6 k7 k8 k9 k10 k11 k12 k13 k14 k15 k16 k17 k18 k19 k20
    have hv : ∀ pq ∈ [((5 : Nat), (.agg #[.int .i64 kx, .string tx, .bool nx, .slice xo xn xc, .slice yo yn yc, .int .i64 ax, .slice po pn pc, .slice qo qn qc] : Value)), ((6 : Nat), (.bool false : Value)), ((7 : Nat), (.bool false : Value)), ((8 : Nat), (undef : Value)), ((9 : Nat), (undef : Value)), ((10 : Nat), (.bool false : Value)), ((11 : Nat), (.bool false : Value)), ((12 : Nat), (undef : Value)), ((13 : Nat), (undef : Value)), ((14 : Nat), (undef : Value)), ((15 : Nat), (undef : Value)), ((16 : Nat), (undef : Value)), ((17 : Nat), (.bool false : Value)), ((18 : Nat), (.bool false : Value)), ((19 : Nat), (undef : Value)), ((20 : Nat), (undef : Value)), ((21 : Nat), (undef : Value)), ((22 : Nat), (undef : Value)), ((23 : Nat), (undef : Value)), ((24 : Nat), (.bool false : Value)), ((4 : Nat), (.bool false : Value))], aa.tmps.getD pq.1 undef = pq.2 := by
     intro pq hp
     simp only [List.mem_cons, List.not_mem_nil, or_false] at hp
     rcases hp with rfl | rfl | rfl | rfl | rfl | rfl | rfl | rfl | rfl | rfl | rfl | rfl | rfl | rfl | rfl | rfl | rfl | rfl | rfl | rfl | rfl
     . exact e0 _ rfl
     . exact e1 _ rfl
     . exact e2 _ rfl
     . exact e3 _ rfl
     . exact e4 _ rfl
     . exact e5 _ rfl
     . exact e6 _ rfl
     . exact e7 _ rfl
     . exact e8 _ rfl
     . exact e9 _ rfl
     . exact e10 _ rfl
     . exact e11 _ rfl
     . exact e12 _ rfl
     . exact e13 _ rfl
     . exact e14 _ rfl
     . exact e15 _ rfl
     . exact e16 _ rfl
     . exact e17 _ rfl
     . exact e18 _ rfl
     . exact e19 _ rfl
     . exact e20 _ rfl
    have hact := act_fold _ hB hv (by kernel_rfl)
    subst hact
    clear hv hall hB e0 e1 e2 e3 e4 e5 e6 e7 e8 e9 e10 e11 e12 e13 e14 e15 e16 e17 e18 e19 e20
    refine (‹∀ (a : Act) (w : World), Code.wp Tryz.prog _ _ a w → _›) _ wC ?_
    simp only [List.foldl, List.setIfInBounds_toArray, List.set_cons_succ, List.set_cons_zero]
    have HC := Lib.hid (HB.out.trans (hC.mono HB.out.size))
    clear hC
    go_wp2_with fail
    go_ret
    exact ⟨by rw [HF.out]; rfl, HC.out⟩
 | true =>
  have HSA := Lib.hid hsa
  clear hsa
  cases hsb : sndX E with
  | false =>
   have HSB := Lib.hid hsb
   clear hsb
   have HF : Hid (res = false) := Lib.hid (by rw [← HRES.out]; unfold samX; rw [HSA.out, HSB.out]; rfl)
   clear HRES
   have HDP : Hid (dpB 100 D = true) := Lib.hid (dpB_le (by omega) (sndX_dp HSA.out))
   refine wp_region_slotsG (psi [isV (.agg #[.int .i64 kx, .string tx, .bool nx, .slice xo xn xc, .slice yo yn yc, .int .i64 ax, .slice po pn pc, .slice qo qn qc]), isV (.bool true), isV (.bool true), isV (.agg #[.int .i64 kz, .string tz, .bool nz, .slice zo zn zc, .slice uo un uc, .int .i64 az, .slice vo vn vc, .slice wo wn wc]), isV (.bool false), isV (.bool false), isV (.bool false), isV undef, isV undef, isV undef, isV undef, isV undef, isV (.bool false), isV (.bool false), isV undef, isV undef, isV undef, isV undef, isV undef, isV (.bool false), isV (.bool false)]) (fun W => Below w1.heap.size w1 W) (by kernel_rfl) (Below.refl _ _).drew (psi_mono ?_) (by kernel_rfl) (by kernel_rfl) ?_ ?_
   . intro pq hp
     simp only [List.mem_cons, List.not_mem_nil, or_false] at hp
     (repeat' rcases hp with rfl | hp) <;> first | exact isV_stays _ | (subst hp; exact isV_stays _) | exact isDm_stays _ | (subst hp; exact isDm_stays _)
   . refine AllOps.cons ?_ ?_
     . intro ab W hC hB hdep
       refine .inl ⟨rfl, ?_⟩
       have b0 : ab.tmps.getD 2 undef = .pointer (some ⟨w.heap.size, 0, none⟩) := hB.off 2 (by kernel_rfl)
       obtain ⟨c0, c1, c2, c3, c4, c5, c6, c7⟩ := rowS8 ((hC.block _ HLT.out.1).trans HN.out.1)
       clear hB hdep
       refine goes_value (v := .agg #[.int .i64 kx, .string tx, .bool nx, .slice xo xn xc, .slice yo yn yc, .int .i64 ax, .slice po pn pc, .slice qo qn qc]) ?_ hC rfl
       simp only [execOp, Act.eval, b0]
       go_simp
     refine AllOps.cons ?_ ?_
     . intro ab W hC hB hdep
       refine .inl ⟨rfl, ?_⟩
       obtain ⟨x0, (q0 : (isV (.agg #[.int .i64 kx, .string tx, .bool nx, .slice xo xn xc, .slice yo yn yc, .int .i64 ax, .slice po pn pc, .slice qo qn qc])) x0 W), e0⟩ := hdep 0 5 (by kernel_rfl)
       obtain rfl : x0 = .agg #[.int .i64 kx, .string tx, .bool nx, .slice xo xn xc, .slice yo yn yc, .int .i64 ax, .slice po pn pc, .slice qo qn qc] := q0
       clear hB hdep
       refine goes_call (f := 62) (args := #[.agg #[.int .i64 kx, .string tx, .bool nx, .slice xo xn xc, .slice yo yn yc, .int .i64 ax, .slice po pn pc, .slice qo qn qc]]) ?_ ?_
       . simp only [execOp]
         go_simp
       . exact (xsound_any D _ W (HD.out.keep (HB.out.trans (hC.mono HB.out.size))) HSM.out.1 (HT.out.below (HB.out.trans (hC.mono HB.out.size)) (Nat.le_refl _))).mono fun e w7 ⟨he, hb⟩ => ⟨_, he, hC.trans (hb.mono hC.size), hb, by show Value.bool _ = _; rw [HSA.out]⟩
     refine AllOps.cons ?_ ?_
     . intro ab W hC hB hdep
       refine .inl ⟨rfl, ?_⟩
       obtain ⟨x0, (q0 : (isV (.bool true)) x0 W), e0⟩ := hdep 1 6 (by kernel_rfl)
       obtain rfl : x0 = .bool true := q0
       clear hB hdep
       refine goes_value (v := .bool true) ?_ hC rfl
       simp only [execOp, Act.eval, e0]
       go_simp
     refine AllOps.cons ?_ ?_
     . intro ab W hC hB hdep
       obtain ⟨xg, (qg : xg = .bool true), eg⟩ := hdep 2 7 (by kernel_rfl)
       subst qg
       refine .inl ⟨((wanted_is (g := 2) (t := 7) (b := true) (c := true) rfl rfl (by rw [hB.size]; exact Nat.le_of_ble_eq_true rfl) eg).trans rfl), ?_⟩
       have b0 : ab.tmps.getD 3 undef = .pointer (some ⟨w.heap.size + 1, 0, none⟩) := hB.off 3 (by kernel_rfl)
       obtain ⟨c0, c1, c2, c3, c4, c5, c6, c7⟩ := rowS8 ((hC.block _ HLT.out.2).trans HN.out.2)
       clear hB hdep
       refine goes_value (v := .agg #[.int .i64 kz, .string tz, .bool nz, .slice zo zn zc, .slice uo un uc, .int .i64 az, .slice vo vn vc, .slice wo wn wc]) ?_ hC rfl
       simp only [execOp, Act.eval, b0]
       go_simp
     refine AllOps.cons ?_ ?_
     . intro ab W hC hB hdep
       obtain ⟨xg, (qg : xg = .bool true), eg⟩ := hdep 2 7 (by kernel_rfl)
       subst qg
       refine .inl ⟨((wanted_is (g := 2) (t := 7) (b := true) (c := true) rfl rfl (by rw [hB.size]; exact Nat.le_of_ble_eq_true rfl) eg).trans rfl), ?_⟩
       obtain ⟨x0, (q0 : (isV (.agg #[.int .i64 kz, .string tz, .bool nz, .slice zo zn zc, .slice uo un uc, .int .i64 az, .slice vo vn vc, .slice wo wn wc])) x0 W), e0⟩ := hdep 3 8 (by kernel_rfl)
       obtain rfl : x0 = .agg #[.int .i64 kz, .string tz, .bool nz, .slice zo zn zc, .slice uo un uc, .int .i64 az, .slice vo vn vc, .slice wo wn wc] := q0
       clear hB hdep
       refine goes_call (f := 62) (args := #[.agg #[.int .i64 kz, .string tz, .bool nz, .slice zo zn zc, .slice uo un uc, .int .i64 az, .slice vo vn vc, .slice wo wn wc]]) ?_ ?_
       . simp only [execOp]
         go_simp
       . exact (xsound_any E _ W (HE.out.keep (HB.out.trans (hC.mono HB.out.size))) HSM.out.2 (HT.out.below (HB.out.trans (hC.mono HB.out.size)) (Nat.le_refl _))).mono fun e w7 ⟨he, hb⟩ => ⟨_, he, hC.trans (hb.mono hC.size), hb, by show Value.bool _ = _; rw [HSB.out]⟩
     refine AllOps.cons ?_ ?_
     . intro ab W hC hB hdep
       refine .inl ⟨rfl, ?_⟩
       obtain ⟨x0, (q0 : (isV (.bool true)) x0 W), e0⟩ := hdep 2 7 (by kernel_rfl)
       obtain rfl : x0 = .bool true := q0
       obtain ⟨x1, (q1 : (isV (.bool false)) x1 W), e1⟩ := hdep 4 9 (by kernel_rfl)
       obtain rfl : x1 = .bool false := q1
       clear hB hdep
       refine goes_value (v := .bool false) ?_ hC rfl
       simp only [execOp, Act.eval, e0, e1]
       go_simp
     refine AllOps.cons ?_ ?_
     . intro ab W hC hB hdep
       refine .inl ⟨rfl, ?_⟩
       obtain ⟨x0, (q0 : (isV (.bool false)) x0 W), e0⟩ := hdep 5 10 (by kernel_rfl)
       obtain rfl : x0 = .bool false := q0
       clear hB hdep
       refine goes_value (v := .bool false) ?_ hC rfl
       simp only [execOp, Act.eval, e0]
       go_simp
     refine AllOps.cons ?_ ?_
     . intro ab W hC hB hdep
       obtain ⟨xg, (qg : xg = .bool false), eg⟩ := hdep 6 11 (by kernel_rfl)
       subst qg
       exact .inr ⟨((wanted_is (g := 6) (t := 11) (b := true) (c := false) rfl rfl (by rw [hB.size]; exact Nat.le_of_ble_eq_true rfl) eg).trans rfl), rfl⟩
     refine AllOps.cons ?_ ?_
     . intro ab W hC hB hdep
       obtain ⟨xg, (qg : xg = .bool false), eg⟩ := hdep 6 11 (by kernel_rfl)
       subst qg
       exact .inr ⟨((wanted_is (g := 6) (t := 11) (b := true) (c := false) rfl rfl (by rw [hB.size]; exact Nat.le_of_ble_eq_true rfl) eg).trans rfl), rfl⟩
     refine AllOps.cons ?_ ?_
     . intro ab W hC hB hdep
       obtain ⟨xg, (qg : xg = .bool false), eg⟩ := hdep 6 11 (by kernel_rfl)
       subst qg
       exact .inr ⟨((wanted_is (g := 6) (t := 11) (b := true) (c := false) rfl rfl (by rw [hB.size]; exact Nat.le_of_ble_eq_true rfl) eg).trans rfl), rfl⟩
     refine AllOps.cons ?_ ?_
     . intro ab W hC hB hdep
       obtain ⟨xg, (qg : xg = .bool false), eg⟩ := hdep 6 11 (by kernel_rfl)
       subst qg
       exact .inr ⟨((wanted_is (g := 6) (t := 11) (b := true) (c := false) rfl rfl (by rw [hB.size]; exact Nat.le_of_ble_eq_true rfl) eg).trans rfl), rfl⟩
     refine AllOps.cons ?_ ?_
     . intro ab W hC hB hdep
       obtain ⟨xg, (qg : xg = .bool false), eg⟩ := hdep 6 11 (by kernel_rfl)
       subst qg
       exact .inr ⟨((wanted_is (g := 6) (t := 11) (b := true) (c := false) rfl rfl (by rw [hB.size]; exact Nat.le_of_ble_eq_true rfl) eg).trans rfl), rfl⟩
     refine AllOps.cons ?_ ?_
     . intro ab W hC hB hdep
       refine .inl ⟨rfl, ?_⟩
       obtain ⟨x0, (q0 : (isV (.bool false)) x0 W), e0⟩ := hdep 6 11 (by kernel_rfl)
       obtain rfl : x0 = .bool false := q0
       obtain ⟨x1, (q1 : (isV undef) x1 W), e1⟩ := hdep 11 16 (by kernel_rfl)
       obtain rfl : x1 = undef := q1
       clear hB hdep
       refine goes_value (v := .bool false) ?_ hC rfl
       simp only [execOp, Act.eval, e0, e1]
       go_simp
     refine AllOps.cons ?_ ?_
     . intro ab W hC hB hdep
       refine .inl ⟨rfl, ?_⟩
       obtain ⟨x0, (q0 : (isV (.bool false)) x0 W), e0⟩ := hdep 12 17 (by kernel_rfl)
       obtain rfl : x0 = .bool false := q0
       clear hB hdep
       refine goes_value (v := .bool false) ?_ hC rfl
       simp only [execOp, Act.eval, e0]
       go_simp
     refine AllOps.cons ?_ ?_
     . intro ab W hC hB hdep
       obtain ⟨xg, (qg : xg = .bool false), eg⟩ := hdep 13 18 (by kernel_rfl)
       subst qg
       exact .inr ⟨((wanted_is (g := 13) (t := 18) (b := true) (c := false) rfl rfl (by rw [hB.size]; exact Nat.le_of_ble_eq_true rfl) eg).trans rfl), rfl⟩
     refine AllOps.cons ?_ ?_
     . intro ab W hC hB hdep
       obtain ⟨xg, (qg : xg = .bool false), eg⟩ := hdep 13 18 (by kernel_rfl)
       subst qg
       exact .inr ⟨((wanted_is (g := 13) (t := 18) (b := true) (c := false) rfl rfl (by rw [hB.size]; exact Nat.le_of_ble_eq_true rfl) eg).trans rfl), rfl⟩
     refine AllOps.cons ?_ ?_
     . intro ab W hC hB hdep
       obtain ⟨xg, (qg : xg = .bool false), eg⟩ := hdep 13 18 (by kernel_rfl)
       subst qg
       exact .inr ⟨((wanted_is (g := 13) (t := 18) (b := true) (c := false) rfl rfl (by rw [hB.size]; exact Nat.le_of_ble_eq_true rfl) eg).trans rfl), rfl⟩
     refine AllOps.cons ?_ ?_
     . intro ab W hC hB hdep
       obtain ⟨xg, (qg : xg = .bool false), eg⟩ := hdep 13 18 (by kernel_rfl)
       subst qg
       exact .inr ⟨((wanted_is (g := 13) (t := 18) (b := true) (c := false) rfl rfl (by rw [hB.size]; exact Nat.le_of_ble_eq_true rfl) eg).trans rfl), rfl⟩
     refine AllOps.cons ?_ ?_
     . intro ab W hC hB hdep
       obtain ⟨xg, (qg : xg = .bool false), eg⟩ := hdep 13 18 (by kernel_rfl)
       subst qg
       exact .inr ⟨((wanted_is (g := 13) (t := 18) (b := true) (c := false) rfl rfl (by rw [hB.size]; exact Nat.le_of_ble_eq_true rfl) eg).trans rfl), rfl⟩
     refine AllOps.cons ?_ ?_
     . intro ab W hC hB hdep
       refine .inl ⟨rfl, ?_⟩
       obtain ⟨x0, (q0 : (isV (.bool false)) x0 W), e0⟩ := hdep 13 18 (by kernel_rfl)
       obtain rfl : x0 = .bool false := q0
       obtain ⟨x1, (q1 : (isV undef) x1 W), e1⟩ := hdep 18 23 (by kernel_rfl)
       obtain rfl : x1 = undef := q1
       clear hB hdep
       refine goes_value (v := .bool false) ?_ hC rfl
       simp only [execOp, Act.eval, e0, e1]
       go_simp
     refine AllOps.cons ?_ ?_
     . intro ab W hC hB hdep
       refine .inl ⟨rfl, ?_⟩
       obtain ⟨x0, (q0 : (isV (.bool false)) x0 W), e0⟩ := hdep 19 24 (by kernel_rfl)
       obtain rfl : x0 = .bool false := q0
       clear hB hdep
       refine goes_value (v := .bool false) ?_ hC rfl
       simp only [execOp, Act.eval, e0]
       go_simp
     exact trivial
   . intro aa wC hC hB hall
     obtain ⟨v0, (k0 : v0 = .agg #[.int .i64 kx, .string tx, .bool nx, .slice xo xn xc, .slice yo yn yc, .int .i64 ax, .slice po pn pc, .slice qo qn qc]), e0⟩ := hall 0 _ rfl
     obtain ⟨v1, (k1 : v1 = .bool true), e1⟩ := hall 1 _ rfl
     obtain ⟨v2, (k2 : v2 = .bool true), e2⟩ := hall 2 _ rfl
     obtain ⟨v3, (k3 : v3 = .agg #[.int .i64 kz, .string tz, .bool nz, .slice zo zn zc, .slice uo un uc, .int .i64 az, .slice vo vn vc, .slice wo wn wc]), e3⟩ := hall 3 _ rfl
     obtain ⟨v4, (k4 : v4 = .bool false), e4⟩ := hall 4 _ rfl
     obtain ⟨v5, (k5 : v5 = .bool false), e5⟩ := hall 5 _ rfl
     obtain ⟨v6, (k6 : v6 = .bool false), e6⟩ := hall 6 _ rfl
     obtain ⟨v7, (k7 : v7 = undef), e7⟩ := hall 7 _ rfl
     obtain ⟨v8, (k8 : v8 = undef), e8⟩ := hall 8 _ rfl
     obtain ⟨v9, (k9 : v9 = undef), e9⟩ := hall 9 _ rfl
     obtain ⟨v10, (k10 : v10 = undef), e10⟩ := hall 10 _ rfl
     obtain ⟨v11, (k11 : v11 = undef), e11⟩ := hall 11 _ rfl
     obtain ⟨v12, (k12 : v12 = .bool false), e12⟩ := hall 12 _ rfl
     obtain ⟨v13, (k13 : v13 = .bool false), e13⟩ := hall 13 _ rfl
     obtain ⟨v14, (k14 : v14 = undef), e14⟩ := hall 14 _ rfl
     obtain ⟨v15, (k15 : v15 = undef), e15⟩ := hall 15 _ rfl
     obtain ⟨v16, (k16 : v16 = undef), e16⟩ := hall 16 _ rfl
     obtain ⟨v17, (k17 : v17 = undef), e17⟩ := hall 17 _ rfl
     obtain ⟨v18, (k18 : v18 = undef), e18⟩ := hall 18 _ rfl
     obtain ⟨v19, (k19 : v19 = .bool false), e19⟩ := hall 19 _ rfl
     obtain ⟨v20, (k20 : v20 = .bool false), e20⟩ := hall 20 _ rfl
     subst k0 k1 k2 k3 k4 k5 k6 k7 k8 k9 k10 k11 k12 k13 k14 k15 k16 k17 k18 k19 k20
     have hv : ∀ pq ∈ [((5 : Nat), (.agg #[.int .i64 kx, .string tx, .bool nx, .slice xo xn xc, .slice yo yn yc, .int .i64 ax, .slice po pn pc, .slice qo qn qc] : Value)), ((6 : Nat), (.bool true : Value)), ((7 : Nat), (.bool true : Value)), ((8 : Nat), (.agg #[.int .i64 kz, .string tz, .bool nz, .slice zo zn zc, .slice uo un uc, .int .i64 az, .slice vo vn vc, .slice wo wn wc] : Value)), ((9 : Nat), (.bool false : Value)), ((10 : Nat), (.bool false : Value)), ((11 : Nat), (.bool false : Value)), ((12 : Nat), (undef : Value)), ((13 : Nat), (undef : Value)), ((14 : Nat), (undef : Value)), ((15 : Nat), (undef : Value)), ((16 : Nat), (undef : Value)), ((17 : Nat), (.bool false : Value)), ((18 : Nat), (.bool false : Value)), ((19 : Nat), (undef : Value)), ((20 : Nat), (undef : Value)), ((21 : Nat), (undef : Value)), ((22 : Nat), (undef : Value)), ((23 : Nat), (undef : Value)), ((24 : Nat), (.bool false : Value)), ((4 : Nat), (.bool false : Value))], aa.tmps.getD pq.1 undef = pq.2 := by
      intro pq hp
      simp only [List.mem_cons, List.not_mem_nil, or_false] at hp
      rcases hp with rfl | rfl | rfl | rfl | rfl | rfl | rfl | rfl | rfl | rfl | rfl | rfl | rfl | rfl | rfl | rfl | rfl | rfl | rfl | rfl | rfl
      . exact e0 _ rfl
      . exact e1 _ rfl
      . exact e2 _ rfl
      . exact e3 _ rfl
      . exact e4 _ rfl
      . exact e5 _ rfl
      . exact e6 _ rfl
      . exact e7 _ rfl
      . exact e8 _ rfl
      . exact e9 _ rfl
      . exact e10 _ rfl
      . exact e11 _ rfl
      . exact e12 _ rfl
      . exact e13 _ rfl
      . exact e14 _ rfl
      . exact e15 _ rfl
      . exact e16 _ rfl
      . exact e17 _ rfl
      . exact e18 _ rfl
      . exact e19 _ rfl
      . exact e20 _ rfl
     have hact := act_fold _ hB hv (by kernel_rfl)
     subst hact
     clear hv hall hB e0 e1 e2 e3 e4 e5 e6 e7 e8 e9 e10 e11 e12 e13 e14 e15 e16 e17 e18 e19 e20
     refine (‹∀ (a : Act) (w : World), Code.wp Tryz.prog _ _ a w → _›) _ wC ?_
     simp only [List.foldl, List.setIfInBounds_toArray, List.set_cons_succ, List.set_cons_zero]
     have HC := Lib.hid (HB.out.trans (hC.mono HB.out.size))
     clear hC
     go_wp2_with fail
     go_ret
     exact ⟨by rw [HF.out]; rfl, HC.out⟩
  | true =>
   have HSB := Lib.hid hsb
   clear hsb
   cases hmm : sameA (dtm D) (dtm E) with
   | false =>
    have HMM := Lib.hid hmm
    clear hmm
    have HF : Hid (res = false) := Lib.hid (by rw [← HRES.out]; unfold samX; rw [HSA.out, HSB.out, ← mean_alk HSA.out HSB.out, HMM.out]; rfl)
    clear HRES
    have HDP : Hid (dpB 100 D = true) := Lib.hid (dpB_le (by omega) (sndX_dp HSA.out))
    refine wp_region_slotsG (psi [isV (.agg #[.int .i64 kx, .string tx, .bool nx, .slice xo xn xc, .slice yo yn yc, .int .i64 ax, .slice po pn pc, .slice qo qn qc]), isV (.bool true), isV (.bool true), isV (.agg #[.int .i64 kz, .string tz, .bool nz, .slice zo zn zc, .slice uo un uc, .int .i64 az, .slice vo vn vc, .slice wo wn wc]), isV (.bool true), isV (.bool true), isV (.bool true), isV (.agg #[.int .i64 kx, .string tx, .bool nx, .slice xo xn xc, .slice yo yn yc, .int .i64 ax, .slice po pn pc, .slice qo qn qc]), isDm (dtm D), isV (.agg #[.int .i64 kz, .string tz, .bool nz, .slice zo zn zc, .slice uo un uc, .int .i64 az, .slice vo vn vc, .slice wo wn wc]), isDm (dtm E), isV (.bool false), isV (.bool false), isV (.bool false), isV undef, isV undef, isV undef, isV undef, isV undef, isV (.bool false), isV (.bool false)]) (fun W => Below w1.heap.size w1 W) (by kernel_rfl) (Below.refl _ _).drew (psi_mono ?_) (by kernel_rfl) (by kernel_rfl) ?_ ?_
    . intro pq hp
      simp only [List.mem_cons, List.not_mem_nil, or_false] at hp
      (repeat' rcases hp with rfl | hp) <;> first | exact isV_stays _ | (subst hp; exact isV_stays _) | exact isDm_stays _ | (subst hp; exact isDm_stays _)
    . refine AllOps.cons ?_ ?_
      . intro ab W hC hB hdep
        refine .inl ⟨rfl, ?_⟩
        have b0 : ab.tmps.getD 2 undef = .pointer (some ⟨w.heap.size, 0, none⟩) := hB.off 2 (by kernel_rfl)
        obtain ⟨c0, c1, c2, c3, c4, c5, c6, c7⟩ := rowS8 ((hC.block _ HLT.out.1).trans HN.out.1)
        clear hB hdep
        refine goes_value (v := .agg #[.int .i64 kx, .string tx, .bool nx, .slice xo xn xc, .slice yo yn yc, .int .i64 ax, .slice po pn pc, .slice qo qn qc]) ?_ hC rfl
        simp only [execOp, Act.eval, b0]
        go_simp
      refine AllOps.cons ?_ ?_
      . intro ab W hC hB hdep
        refine .inl ⟨rfl, ?_⟩
        obtain ⟨x0, (q0 : (isV (.agg #[.int .i64 kx, .string tx, .bool nx, .slice xo xn xc, .slice yo yn yc, .int .i64 ax, .slice po pn pc, .slice qo qn qc])) x0 W), e0⟩ := hdep 0 5 (by kernel_rfl)
        obtain rfl : x0 = .agg #[.int .i64 kx, .string tx, .bool nx, .slice xo xn xc, .slice yo yn yc, .int .i64 ax, .slice po pn pc, .slice qo qn qc] := q0
        clear hB hdep
        refine goes_call (f := 62) (args := #[.agg #[.int .i64 kx, .string tx, .bool nx, .slice xo xn xc, .slice yo yn yc, .int .i64 ax, .slice po pn pc, .slice qo qn qc]]) ?_ ?_
        . simp only [execOp]
          go_simp
        . exact (xsound_any D _ W (HD.out.keep (HB.out.trans (hC.mono HB.out.size))) HSM.out.1 (HT.out.below (HB.out.trans (hC.mono HB.out.size)) (Nat.le_refl _))).mono fun e w7 ⟨he, hb⟩ => ⟨_, he, hC.trans (hb.mono hC.size), hb, by show Value.bool _ = _; rw [HSA.out]⟩
      refine AllOps.cons ?_ ?_
      . intro ab W hC hB hdep
        refine .inl ⟨rfl, ?_⟩
        obtain ⟨x0, (q0 : (isV (.bool true)) x0 W), e0⟩ := hdep 1 6 (by kernel_rfl)
        obtain rfl : x0 = .bool true := q0
        clear hB hdep
        refine goes_value (v := .bool true) ?_ hC rfl
        simp only [execOp, Act.eval, e0]
        go_simp
      refine AllOps.cons ?_ ?_
      . intro ab W hC hB hdep
        obtain ⟨xg, (qg : xg = .bool true), eg⟩ := hdep 2 7 (by kernel_rfl)
        subst qg
        refine .inl ⟨((wanted_is (g := 2) (t := 7) (b := true) (c := true) rfl rfl (by rw [hB.size]; exact Nat.le_of_ble_eq_true rfl) eg).trans rfl), ?_⟩
        have b0 : ab.tmps.getD 3 undef = .pointer (some ⟨w.heap.size + 1, 0, none⟩) := hB.off 3 (by kernel_rfl)
        obtain ⟨c0, c1, c2, c3, c4, c5, c6, c7⟩ := rowS8 ((hC.block _ HLT.out.2).trans HN.out.2)
        clear hB hdep
        refine goes_value (v := .agg #[.int .i64 kz, .string tz, .bool nz, .slice zo zn zc, .slice uo un uc, .int .i64 az, .slice vo vn vc, .slice wo wn wc]) ?_ hC rfl
        simp only [execOp, Act.eval, b0]
        go_simp
      refine AllOps.cons ?_ ?_
      . intro ab W hC hB hdep
        obtain ⟨xg, (qg : xg = .bool true), eg⟩ := hdep 2 7 (by kernel_rfl)
        subst qg
        refine .inl ⟨((wanted_is (g := 2) (t := 7) (b := true) (c := true) rfl rfl (by rw [hB.size]; exact Nat.le_of_ble_eq_true rfl) eg).trans rfl), ?_⟩
        obtain ⟨x0, (q0 : (isV (.agg #[.int .i64 kz, .string tz, .bool nz, .slice zo zn zc, .slice uo un uc, .int .i64 az, .slice vo vn vc, .slice wo wn wc])) x0 W), e0⟩ := hdep 3 8 (by kernel_rfl)
        obtain rfl : x0 = .agg #[.int .i64 kz, .string tz, .bool nz, .slice zo zn zc, .slice uo un uc, .int .i64 az, .slice vo vn vc, .slice wo wn wc] := q0
        clear hB hdep
        refine goes_call (f := 62) (args := #[.agg #[.int .i64 kz, .string tz, .bool nz, .slice zo zn zc, .slice uo un uc, .int .i64 az, .slice vo vn vc, .slice wo wn wc]]) ?_ ?_
        . simp only [execOp]
          go_simp
        . exact (xsound_any E _ W (HE.out.keep (HB.out.trans (hC.mono HB.out.size))) HSM.out.2 (HT.out.below (HB.out.trans (hC.mono HB.out.size)) (Nat.le_refl _))).mono fun e w7 ⟨he, hb⟩ => ⟨_, he, hC.trans (hb.mono hC.size), hb, by show Value.bool _ = _; rw [HSB.out]⟩
      refine AllOps.cons ?_ ?_
      . intro ab W hC hB hdep
        refine .inl ⟨rfl, ?_⟩
        obtain ⟨x0, (q0 : (isV (.bool true)) x0 W), e0⟩ := hdep 2 7 (by kernel_rfl)
        obtain rfl : x0 = .bool true := q0
        obtain ⟨x1, (q1 : (isV (.bool true)) x1 W), e1⟩ := hdep 4 9 (by kernel_rfl)
        obtain rfl : x1 = .bool true := q1
        clear hB hdep
        refine goes_value (v := .bool true) ?_ hC rfl
        simp only [execOp, Act.eval, e0, e1]
        go_simp
      refine AllOps.cons ?_ ?_
      . intro ab W hC hB hdep
        refine .inl ⟨rfl, ?_⟩
        obtain ⟨x0, (q0 : (isV (.bool true)) x0 W), e0⟩ := hdep 5 10 (by kernel_rfl)
        obtain rfl : x0 = .bool true := q0
        clear hB hdep
        refine goes_value (v := .bool true) ?_ hC rfl
        simp only [execOp, Act.eval, e0]
        go_simp
      refine AllOps.cons ?_ ?_
      . intro ab W hC hB hdep
        obtain ⟨xg, (qg : xg = .bool true), eg⟩ := hdep 6 11 (by kernel_rfl)
        subst qg
        refine .inl ⟨((wanted_is (g := 6) (t := 11) (b := true) (c := true) rfl rfl (by rw [hB.size]; exact Nat.le_of_ble_eq_true rfl) eg).trans rfl), ?_⟩
        have b0 : ab.tmps.getD 2 undef = .pointer (some ⟨w.heap.size, 0, none⟩) := hB.off 2 (by kernel_rfl)
        obtain ⟨c0, c1, c2, c3, c4, c5, c6, c7⟩ := rowS8 ((hC.block _ HLT.out.1).trans HN.out.1)
        clear hB hdep
        refine goes_value (v := .agg #[.int .i64 kx, .string tx, .bool nx, .slice xo xn xc, .slice yo yn yc, .int .i64 ax, .slice po pn pc, .slice qo qn qc]) ?_ hC rfl
        simp only [execOp, Act.eval, b0]
        go_simp
      refine AllOps.cons ?_ ?_
      . intro ab W hC hB hdep
        obtain ⟨xg, (qg : xg = .bool true), eg⟩ := hdep 6 11 (by kernel_rfl)
        subst qg
        refine .inl ⟨((wanted_is (g := 6) (t := 11) (b := true) (c := true) rfl rfl (by rw [hB.size]; exact Nat.le_of_ble_eq_true rfl) eg).trans rfl), ?_⟩
        obtain ⟨x0, (q0 : (isV (.agg #[.int .i64 kx, .string tx, .bool nx, .slice xo xn xc, .slice yo yn yc, .int .i64 ax, .slice po pn pc, .slice qo qn qc])) x0 W), e0⟩ := hdep 7 12 (by kernel_rfl)
        obtain rfl : x0 = .agg #[.int .i64 kx, .string tx, .bool nx, .slice xo xn xc, .slice yo yn yc, .int .i64 ax, .slice po pn pc, .slice qo qn qc] := q0
        clear hB hdep
        refine goes_call (f := 73) (args := #[.agg #[.int .i64 kx, .string tx, .bool nx, .slice xo xn xc, .slice yo yn yc, .int .i64 ax, .slice po pn pc, .slice qo qn qc]]) ?_ ?_
        . simp only [execOp]
          go_simp
        . exact (datum_any D.sz D (Nat.le_refl _) HSM.out.1 _ W (HD.out.keep (HB.out.trans (hC.mono HB.out.size)))).mono fun e w7 ⟨us7, he, hl, hb⟩ => ⟨_, he, hC.trans (hb.mono hC.size), hb, us7, rfl, hl.lay⟩
      refine AllOps.cons ?_ ?_
      . intro ab W hC hB hdep
        obtain ⟨xg, (qg : xg = .bool true), eg⟩ := hdep 6 11 (by kernel_rfl)
        subst qg
        refine .inl ⟨((wanted_is (g := 6) (t := 11) (b := true) (c := true) rfl rfl (by rw [hB.size]; exact Nat.le_of_ble_eq_true rfl) eg).trans rfl), ?_⟩
        have b0 : ab.tmps.getD 3 undef = .pointer (some ⟨w.heap.size + 1, 0, none⟩) := hB.off 3 (by kernel_rfl)
        obtain ⟨c0, c1, c2, c3, c4, c5, c6, c7⟩ := rowS8 ((hC.block _ HLT.out.2).trans HN.out.2)
        clear hB hdep
        refine goes_value (v := .agg #[.int .i64 kz, .string tz, .bool nz, .slice zo zn zc, .slice uo un uc, .int .i64 az, .slice vo vn vc, .slice wo wn wc]) ?_ hC rfl
        simp only [execOp, Act.eval, b0]
        go_simp
      refine AllOps.cons ?_ ?_
      . intro ab W hC hB hdep
        obtain ⟨xg, (qg : xg = .bool true), eg⟩ := hdep 6 11 (by kernel_rfl)
        subst qg
        refine .inl ⟨((wanted_is (g := 6) (t := 11) (b := true) (c := true) rfl rfl (by rw [hB.size]; exact Nat.le_of_ble_eq_true rfl) eg).trans rfl), ?_⟩
        obtain ⟨x0, (q0 : (isV (.agg #[.int .i64 kz, .string tz, .bool nz, .slice zo zn zc, .slice uo un uc, .int .i64 az, .slice vo vn vc, .slice wo wn wc])) x0 W), e0⟩ := hdep 9 14 (by kernel_rfl)
        obtain rfl : x0 = .agg #[.int .i64 kz, .string tz, .bool nz, .slice zo zn zc, .slice uo un uc, .int .i64 az, .slice vo vn vc, .slice wo wn wc] := q0
        clear hB hdep
        refine goes_call (f := 73) (args := #[.agg #[.int .i64 kz, .string tz, .bool nz, .slice zo zn zc, .slice uo un uc, .int .i64 az, .slice vo vn vc, .slice wo wn wc]]) ?_ ?_
        . simp only [execOp]
          go_simp
        . exact (datum_any E.sz E (Nat.le_refl _) HSM.out.2 _ W (HE.out.keep (HB.out.trans (hC.mono HB.out.size)))).mono fun e w7 ⟨us7, he, hl, hb⟩ => ⟨_, he, hC.trans (hb.mono hC.size), hb, us7, rfl, hl.lay⟩
      refine AllOps.cons ?_ ?_
      . intro ab W hC hB hdep
        obtain ⟨xg, (qg : xg = .bool true), eg⟩ := hdep 6 11 (by kernel_rfl)
        subst qg
        refine .inl ⟨((wanted_is (g := 6) (t := 11) (b := true) (c := true) rfl rfl (by rw [hB.size]; exact Nat.le_of_ble_eq_true rfl) eg).trans rfl), ?_⟩
        obtain ⟨x0, (q0 : (isDm (dtm D)) x0 W), e0⟩ := hdep 8 13 (by kernel_rfl)
        skip
        obtain ⟨x1, (q1 : (isDm (dtm E)) x1 W), e1⟩ := hdep 10 15 (by kernel_rfl)
        skip
        clear hB hdep
        refine goes_call (f := 72) (args := #[x0, x1]) ?_ ?_
        . simp only [execOp]
          go_simp
        . obtain ⟨ua, rfl, hla⟩ := q0
          obtain ⟨ub, rfl, hlb⟩ := q1
          exact (dsame_any _ (dtm D) (dtm E) (Nat.le_refl _) ua ub W hla hlb).mono fun e w7 ⟨he, hb⟩ => ⟨_, he, hC.trans (hb.mono hC.size), hb, by show Value.bool _ = _; rw [HMM.out]⟩
      refine AllOps.cons ?_ ?_
      . intro ab W hC hB hdep
        refine .inl ⟨rfl, ?_⟩
        obtain ⟨x0, (q0 : (isV (.bool true)) x0 W), e0⟩ := hdep 6 11 (by kernel_rfl)
        obtain rfl : x0 = .bool true := q0
        obtain ⟨x1, (q1 : (isV (.bool false)) x1 W), e1⟩ := hdep 11 16 (by kernel_rfl)
        obtain rfl : x1 = .bool false := q1
        clear hB hdep
        refine goes_value (v := .bool false) ?_ hC rfl
        simp only [execOp, Act.eval, e0, e1]
        go_simp
      refine AllOps.cons ?_ ?_
      . intro ab W hC hB hdep
        refine .inl ⟨rfl, ?_⟩
        obtain ⟨x0, (q0 : (isV (.bool false)) x0 W), e0⟩ := hdep 12 17 (by kernel_rfl)
        obtain rfl : x0 = .bool false := q0
        clear hB hdep
        refine goes_value (v := .bool false) ?_ hC rfl
        simp only [execOp, Act.eval, e0]
        go_simp
      refine AllOps.cons ?_ ?_
      . intro ab W hC hB hdep
        obtain ⟨xg, (qg : xg = .bool false), eg⟩ := hdep 13 18 (by kernel_rfl)
        subst qg
        exact .inr ⟨((wanted_is (g := 13) (t := 18) (b := true) (c := false) rfl rfl (by rw [hB.size]; exact Nat.le_of_ble_eq_true rfl) eg).trans rfl), rfl⟩
      refine AllOps.cons ?_ ?_
      . intro ab W hC hB hdep
        obtain ⟨xg, (qg : xg = .bool false), eg⟩ := hdep 13 18 (by kernel_rfl)
        subst qg
        exact .inr ⟨((wanted_is (g := 13) (t := 18) (b := true) (c := false) rfl rfl (by rw [hB.size]; exact Nat.le_of_ble_eq_true rfl) eg).trans rfl), rfl⟩
      refine AllOps.cons ?_ ?_
      . intro ab W hC hB hdep
        obtain ⟨xg, (qg : xg = .bool false), eg⟩ := hdep 13 18 (by kernel_rfl)
        subst qg
        exact .inr ⟨((wanted_is (g := 13) (t := 18) (b := true) (c := false) rfl rfl (by rw [hB.size]; exact Nat.le_of_ble_eq_true rfl) eg).trans rfl), rfl⟩
      refine AllOps.cons ?_ ?_
      . intro ab W hC hB hdep
        obtain ⟨xg, (qg : xg = .bool false), eg⟩ := hdep 13 18 (by kernel_rfl)
        subst qg
        exact .inr ⟨((wanted_is (g := 13) (t := 18) (b := true) (c := false) rfl rfl (by rw [hB.size]; exact Nat.le_of_ble_eq_true rfl) eg).trans rfl), rfl⟩
      refine AllOps.cons ?_ ?_
      . intro ab W hC hB hdep
        obtain ⟨xg, (qg : xg = .bool false), eg⟩ := hdep 13 18 (by kernel_rfl)
        subst qg
        exact .inr ⟨((wanted_is (g := 13) (t := 18) (b := true) (c := false) rfl rfl (by rw [hB.size]; exact Nat.le_of_ble_eq_true rfl) eg).trans rfl), rfl⟩
      refine AllOps.cons ?_ ?_
      . intro ab W hC hB hdep
        refine .inl ⟨rfl, ?_⟩
        obtain ⟨x0, (q0 : (isV (.bool false)) x0 W), e0⟩ := hdep 13 18 (by kernel_rfl)
        obtain rfl : x0 = .bool false := q0
        obtain ⟨x1, (q1 : (isV undef) x1 W), e1⟩ := hdep 18 23 (by kernel_rfl)
        obtain rfl : x1 = undef := q1
        clear hB hdep
        refine goes_value (v := .bool false) ?_ hC rfl
        simp only [execOp, Act.eval, e0, e1]
        go_simp
      refine AllOps.cons ?_ ?_
      . intro ab W hC hB hdep
        refine .inl ⟨rfl, ?_⟩
        obtain ⟨x0, (q0 : (isV (.bool false)) x0 W), e0⟩ := hdep 19 24 (by kernel_rfl)
        obtain rfl : x0 = .bool false := q0
        clear hB hdep
        refine goes_value (v := .bool false) ?_ hC rfl
        simp only [execOp, Act.eval, e0]
        go_simp
      exact trivial
    . intro aa wC hC hB hall
      obtain ⟨v0, (k0 : v0 = .agg #[.int .i64 kx, .string tx, .bool nx, .slice xo xn xc, .slice yo yn yc, .int .i64 ax, .slice po pn pc, .slice qo qn qc]), e0⟩ := hall 0 _ rfl
      obtain ⟨v1, (k1 : v1 = .bool true), e1⟩ := hall 1 _ rfl
      obtain ⟨v2, (k2 : v2 = .bool true), e2⟩ := hall 2 _ rfl
      obtain ⟨v3, (k3 : v3 = .agg #[.int .i64 kz, .string tz, .bool nz, .slice zo zn zc, .slice uo un uc, .int .i64 az, .slice vo vn vc, .slice wo wn wc]), e3⟩ := hall 3 _ rfl
      obtain ⟨v4, (k4 : v4 = .bool true), e4⟩ := hall 4 _ rfl
      obtain ⟨v5, (k5 : v5 = .bool true), e5⟩ := hall 5 _ rfl
      obtain ⟨v6, (k6 : v6 = .bool true), e6⟩ := hall 6 _ rfl
      obtain ⟨v7, (k7 : v7 = .agg #[.int .i64 kx, .string tx, .bool nx, .slice xo xn xc, .slice yo yn yc, .int .i64 ax, .slice po pn pc, .slice qo qn qc]), e7⟩ := hall 7 _ rfl
      obtain ⟨v8, (k8 : (isDm (dtm D)) v8 wC), e8⟩ := hall 8 _ rfl
      obtain ⟨v9, (k9 : v9 = .agg #[.int .i64 kz, .string tz, .bool nz, .slice zo zn zc, .slice uo un uc, .int .i64 az, .slice vo vn vc, .slice wo wn wc]), e9⟩ := hall 9 _ rfl
      obtain ⟨v10, (k10 : (isDm (dtm E)) v10 wC), e10⟩ := hall 10 _ rfl
      obtain ⟨v11, (k11 : v11 = .bool false), e11⟩ := hall 11 _ rfl
      obtain ⟨v12, (k12 : v12 = .bool false), e12⟩ := hall 12 _ rfl
      obtain ⟨v13, (k13 : v13 = .bool false), e13⟩ := hall 13 _ rfl
      obtain ⟨v14, (k14 : v14 = undef), e14⟩ := hall 14 _ rfl
      obtain ⟨v15, (k15 : v15 = undef), e15⟩ := hall 15 _ rfl
      obtain ⟨v16, (k16 : v16 = undef), e16⟩ := hall 16 _ rfl
      obtain ⟨v17, (k17 : v17 = undef), e17⟩ := hall 17 _ rfl
      obtain ⟨v18, (k18 : v18 = undef), e18⟩ := hall 18 _ rfl
      obtain ⟨v19, (k19 : v19 = .bool false), e19⟩ := hall 19 _ rfl
      obtain ⟨v20, (k20 : v20 = .bool false), e20⟩ := hall 20 _ rfl
      subst k0 k1 k2 k3 k4 k5 k6 k7 k9 k11 k12 k13 k14 k15 k16 k17 k18 k19 k20
      have hv : ∀ pq ∈ [((5 : Nat), (.agg #[.int .i64 kx, .string tx, .bool nx, .slice xo xn xc, .slice yo yn yc, .int .i64 ax, .slice po pn pc, .slice qo qn qc] : Value)), ((6 : Nat), (.bool true : Value)), ((7 : Nat), (.bool true : Value)), ((8 : Nat), (.agg #[.int .i64 kz, .string tz, .bool nz, .slice zo zn zc, .slice uo un uc, .int .i64 az, .slice vo vn vc, .slice wo wn wc] : Value)), ((9 : Nat), (.bool true : Value)), ((10 : Nat), (.bool true : Value)), ((11 : Nat), (.bool true : Value)), ((12 : Nat), (.agg #[.int .i64 kx, .string tx, .bool nx, .slice xo xn xc, .slice yo yn yc, .int .i64 ax, .slice po pn pc, .slice qo qn qc] : Value)), ((13 : Nat), (v8 : Value)), ((14 : Nat), (.agg #[.int .i64 kz, .string tz, .bool nz, .slice zo zn zc, .slice uo un uc, .int .i64 az, .slice vo vn vc, .slice wo wn wc] : Value)), ((15 : Nat), (v10 : Value)), ((16 : Nat), (.bool false : Value)), ((17 : Nat), (.bool false : Value)), ((18 : Nat), (.bool false : Value)), ((19 : Nat), (undef : Value)), ((20 : Nat), (undef : Value)), ((21 : Nat), (undef : Value)), ((22 : Nat), (undef : Value)), ((23 : Nat), (undef : Value)), ((24 : Nat), (.bool false : Value)), ((4 : Nat), (.bool false : Value))], aa.tmps.getD pq.1 undef = pq.2 := by
       intro pq hp
       simp only [List.mem_cons, List.not_mem_nil, or_false] at hp
       rcases hp with rfl | rfl | rfl | rfl | rfl | rfl | rfl | rfl | rfl | rfl | rfl | rfl | rfl | rfl | rfl | rfl | rfl | rfl | rfl | rfl | rfl
       . exact e0 _ rfl
       . exact e1 _ rfl
       . exact e2 _ rfl
       . exact e3 _ rfl
       . exact e4 _ rfl
       . exact e5 _ rfl
       . exact e6 _ rfl
       . exact e7 _ rfl
       . exact e8 _ rfl
       . exact e9 _ rfl
       . exact e10 _ rfl
       . exact e11 _ rfl
       . exact e12 _ rfl
       . exact e13 _ rfl
       . exact e14 _ rfl
       . exact e15 _ rfl
       . exact e16 _ rfl
       . exact e17 _ rfl
       . exact e18 _ rfl
       . exact e19 _ rfl
       . exact e20 _ rfl
      have hact := act_fold _ hB hv (by kernel_rfl)
      subst hact
      clear hv hall hB e0 e1 e2 e3 e4 e5 e6 e7 e8 e9 e10 e11 e12 e13 e14 e15 e16 e17 e18 e19 e20
      refine (‹∀ (a : Act) (w : World), Code.wp Tryz.prog _ _ a w → _›) _ wC ?_
      simp only [List.foldl, List.setIfInBounds_toArray, List.set_cons_succ, List.set_cons_zero]
      have HC := Lib.hid (HB.out.trans (hC.mono HB.out.size))
      clear hC
      go_wp2_with fail
      go_ret
      exact ⟨by rw [HF.out]; rfl, HC.out⟩
   | true =>
    have HMM := Lib.hid hmm
    clear hmm
    have HF : Hid (res = al) := Lib.hid (by rw [← HRES.out]; unfold samX; rw [HSA.out, HSB.out, ← mean_alk HSA.out HSB.out, HMM.out, HAL.out]; rfl)
    have HDP : Hid (dpB 100 D = true) := Lib.hid (dpB_le (by omega) (sndX_dp HSA.out))
    refine wp_region_slotsG (psi [isV (.agg #[.int .i64 kx, .string tx, .bool nx, .slice xo xn xc, .slice yo yn yc, .int .i64 ax, .slice po pn pc, .slice qo qn qc]), isV (.bool true), isV (.bool true), isV (.agg #[.int .i64 kz, .string tz, .bool nz, .slice zo zn zc, .slice uo un uc, .int .i64 az, .slice vo vn vc, .slice wo wn wc]), isV (.bool true), isV (.bool true), isV (.bool true), isV (.agg #[.int .i64 kx, .string tx, .bool nx, .slice xo xn xc, .slice yo yn yc, .int .i64 ax, .slice po pn pc, .slice qo qn qc]), isDm (dtm D), isV (.agg #[.int .i64 kz, .string tz, .bool nz, .slice zo zn zc, .slice uo un uc, .int .i64 az, .slice vo vn vc, .slice wo wn wc]), isDm (dtm E), isV (.bool true), isV (.bool true), isV (.bool true), isV (.agg #[.int .i64 kx, .string tx, .bool nx, .slice xo xn xc, .slice yo yn yc, .int .i64 ax, .slice po pn pc, .slice qo qn qc]), isV (.agg #[.int .i64 kz, .string tz, .bool nz, .slice zo zn zc, .slice uo un uc, .int .i64 az, .slice vo vn vc, .slice wo wn wc]), isV (.agg #[.slice none 0 0, .slice none 0 0]), isV (.agg #[.slice none 0 0, .slice none 0 0]), isV (.bool al), isV (.bool al), isV (.bool al)]) (fun W => Below w1.heap.size w1 W) (by kernel_rfl) (Below.refl _ _).drew (psi_mono ?_) (by kernel_rfl) (by kernel_rfl) ?_ ?_
    . intro pq hp
      simp only [List.mem_cons, List.not_mem_nil, or_false] at hp
      (repeat' rcases hp with rfl | hp) <;> first | exact isV_stays _ | (subst hp; exact isV_stays _) | exact isDm_stays _ | (subst hp; exact isDm_stays _)
    . refine AllOps.cons ?_ ?_
      . intro ab W hC hB hdep
        refine .inl ⟨rfl, ?_⟩
        have b0 : ab.tmps.getD 2 undef = .pointer (some ⟨w.heap.size, 0, none⟩) := hB.off 2 (by kernel_rfl)
        obtain ⟨c0, c1, c2, c3, c4, c5, c6, c7⟩ := rowS8 ((hC.block _ HLT.out.1).trans HN.out.1)
        clear hB hdep
        refine goes_value (v := .agg #[.int .i64 kx, .string tx, .bool nx, .slice xo xn xc, .slice yo yn yc, .int .i64 ax, .slice po pn pc, .slice qo qn qc]) ?_ hC rfl
        simp only [execOp, Act.eval, b0]
        go_simp
      refine AllOps.cons ?_ ?_
      . intro ab W hC hB hdep
        refine .inl ⟨rfl, ?_⟩
        obtain ⟨x0, (q0 : (isV (.agg #[.int .i64 kx, .string tx, .bool nx, .slice xo xn xc, .slice yo yn yc, .int .i64 ax, .slice po pn pc, .slice qo qn qc])) x0 W), e0⟩ := hdep 0 5 (by kernel_rfl)
        obtain rfl : x0 = .agg #[.int .i64 kx, .string tx, .bool nx, .slice xo xn xc, .slice yo yn yc, .int .i64 ax, .slice po pn pc, .slice qo qn qc] := q0
        clear hB hdep
        refine goes_call (f := 62) (args := #[.agg #[.int .i64 kx, .string tx, .bool nx, .slice xo xn xc, .slice yo yn yc, .int .i64 ax, .slice po pn pc, .slice qo qn qc]]) ?_ ?_
        . simp only [execOp]
          go_simp
        . exact (xsound_any D _ W (HD.out.keep (HB.out.trans (hC.mono HB.out.size))) HSM.out.1 (HT.out.below (HB.out.trans (hC.mono HB.out.size)) (Nat.le_refl _))).mono fun e w7 ⟨he, hb⟩ => ⟨_, he, hC.trans (hb.mono hC.size), hb, by show Value.bool _ = _; rw [HSA.out]⟩
      refine AllOps.cons ?_ ?_
      . intro ab W hC hB hdep
        refine .inl ⟨rfl, ?_⟩
        obtain ⟨x0, (q0 : (isV (.bool true)) x0 W), e0⟩ := hdep 1 6 (by kernel_rfl)
        obtain rfl : x0 = .bool true := q0
        clear hB hdep
        refine goes_value (v := .bool true) ?_ hC rfl
        simp only [execOp, Act.eval, e0]
        go_simp
      refine AllOps.cons ?_ ?_
      . intro ab W hC hB hdep
        obtain ⟨xg, (qg : xg = .bool true), eg⟩ := hdep 2 7 (by kernel_rfl)
        subst qg
        refine .inl ⟨((wanted_is (g := 2) (t := 7) (b := true) (c := true) rfl rfl (by rw [hB.size]; exact Nat.le_of_ble_eq_true rfl) eg).trans rfl), ?_⟩
        have b0 : ab.tmps.getD 3 undef = .pointer (some ⟨w.heap.size + 1, 0, none⟩) := hB.off 3 (by kernel_rfl)
        obtain ⟨c0, c1, c2, c3, c4, c5, c6, c7⟩ := rowS8 ((hC.block _ HLT.out.2).trans HN.out.2)
        clear hB hdep
        refine goes_value (v := .agg #[.int .i64 kz, .string tz, .bool nz, .slice zo zn zc, .slice uo un uc, .int .i64 az, .slice vo vn vc, .slice wo wn wc]) ?_ hC rfl
        simp only [execOp, Act.eval, b0]
        go_simp
      refine AllOps.cons ?_ ?_
      . intro ab W hC hB hdep
        obtain ⟨xg, (qg : xg = .bool true), eg⟩ := hdep 2 7 (by kernel_rfl)
        subst qg
        refine .inl ⟨((wanted_is (g := 2) (t := 7) (b := true) (c := true) rfl rfl (by rw [hB.size]; exact Nat.le_of_ble_eq_true rfl) eg).trans rfl), ?_⟩
        obtain ⟨x0, (q0 : (isV (.agg #[.int .i64 kz, .string tz, .bool nz, .slice zo zn zc, .slice uo un uc, .int .i64 az, .slice vo vn vc, .slice wo wn wc])) x0 W), e0⟩ := hdep 3 8 (by kernel_rfl)
        obtain rfl : x0 = .agg #[.int .i64 kz, .string tz, .bool nz, .slice zo zn zc, .slice uo un uc, .int .i64 az, .slice vo vn vc, .slice wo wn wc] := q0
        clear hB hdep
        refine goes_call (f := 62) (args := #[.agg #[.int .i64 kz, .string tz, .bool nz, .slice zo zn zc, .slice uo un uc, .int .i64 az, .slice vo vn vc, .slice wo wn wc]]) ?_ ?_
        . simp only [execOp]
          go_simp
        . exact (xsound_any E _ W (HE.out.keep (HB.out.trans (hC.mono HB.out.size))) HSM.out.2 (HT.out.below (HB.out.trans (hC.mono HB.out.size)) (Nat.le_refl _))).mono fun e w7 ⟨he, hb⟩ => ⟨_, he, hC.trans (hb.mono hC.size), hb, by show Value.bool _ = _; rw [HSB.out]⟩
      refine AllOps.cons ?_ ?_
      . intro ab W hC hB hdep
        refine .inl ⟨rfl, ?_⟩
        obtain ⟨x0, (q0 : (isV (.bool true)) x0 W), e0⟩ := hdep 2 7 (by kernel_rfl)
        obtain rfl : x0 = .bool true := q0
        obtain ⟨x1, (q1 : (isV (.bool true)) x1 W), e1⟩ := hdep 4 9 (by kernel_rfl)
        obtain rfl : x1 = .bool true := q1
        clear hB hdep
        refine goes_value (v := .bool true) ?_ hC rfl
        simp only [execOp, Act.eval, e0, e1]
        go_simp
      refine AllOps.cons ?_ ?_
      . intro ab W hC hB hdep
        refine .inl ⟨rfl, ?_⟩
        obtain ⟨x0, (q0 : (isV (.bool true)) x0 W), e0⟩ := hdep 5 10 (by kernel_rfl)
        obtain rfl : x0 = .bool true := q0
        clear hB hdep
        refine goes_value (v := .bool true) ?_ hC rfl
        simp only [execOp, Act.eval, e0]
        go_simp
      refine AllOps.cons ?_ ?_
      . intro ab W hC hB hdep
        obtain ⟨xg, (qg : xg = .bool true), eg⟩ := hdep 6 11 (by kernel_rfl)
        subst qg
        refine .inl ⟨((wanted_is (g := 6) (t := 11) (b := true) (c := true) rfl rfl (by rw [hB.size]; exact Nat.le_of_ble_eq_true rfl) eg).trans rfl), ?_⟩
        have b0 : ab.tmps.getD 2 undef = .pointer (some ⟨w.heap.size, 0, none⟩) := hB.off 2 (by kernel_rfl)
        obtain ⟨c0, c1, c2, c3, c4, c5, c6, c7⟩ := rowS8 ((hC.block _ HLT.out.1).trans HN.out.1)
        clear hB hdep
        refine goes_value (v := .agg #[.int .i64 kx, .string tx, .bool nx, .slice xo xn xc, .slice yo yn yc, .int .i64 ax, .slice po pn pc, .slice qo qn qc]) ?_ hC rfl
        simp only [execOp, Act.eval, b0]
        go_simp
      refine AllOps.cons ?_ ?_
      . intro ab W hC hB hdep
        obtain ⟨xg, (qg : xg = .bool true), eg⟩ := hdep 6 11 (by kernel_rfl)
        subst qg
        refine .inl ⟨((wanted_is (g := 6) (t := 11) (b := true) (c := true) rfl rfl (by rw [hB.size]; exact Nat.le_of_ble_eq_true rfl) eg).trans rfl), ?_⟩
        obtain ⟨x0, (q0 : (isV (.agg #[.int .i64 kx, .string tx, .bool nx, .slice xo xn xc, .slice yo yn yc, .int .i64 ax, .slice po pn pc, .slice qo qn qc])) x0 W), e0⟩ := hdep 7 12 (by kernel_rfl)
        obtain rfl : x0 = .agg #[.int .i64 kx, .string tx, .bool nx, .slice xo xn xc, .slice yo yn yc, .int .i64 ax, .slice po pn pc, .slice qo qn qc] := q0
        clear hB hdep
        refine goes_call (f := 73) (args := #[.agg #[.int .i64 kx, .string tx, .bool nx, .slice xo xn xc, .slice yo yn yc, .int .i64 ax, .slice po pn pc, .slice qo qn qc]]) ?_ ?_
        . simp only [execOp]
          go_simp
        . exact (datum_any D.sz D (Nat.le_refl _) HSM.out.1 _ W (HD.out.keep (HB.out.trans (hC.mono HB.out.size)))).mono fun e w7 ⟨us7, he, hl, hb⟩ => ⟨_, he, hC.trans (hb.mono hC.size), hb, us7, rfl, hl.lay⟩
      refine AllOps.cons ?_ ?_
      . intro ab W hC hB hdep
        obtain ⟨xg, (qg : xg = .bool true), eg⟩ := hdep 6 11 (by kernel_rfl)
        subst qg
        refine .inl ⟨((wanted_is (g := 6) (t := 11) (b := true) (c := true) rfl rfl (by rw [hB.size]; exact Nat.le_of_ble_eq_true rfl) eg).trans rfl), ?_⟩
        have b0 : ab.tmps.getD 3 undef = .pointer (some ⟨w.heap.size + 1, 0, none⟩) := hB.off 3 (by kernel_rfl)
        obtain ⟨c0, c1, c2, c3, c4, c5, c6, c7⟩ := rowS8 ((hC.block _ HLT.out.2).trans HN.out.2)
        clear hB hdep
        refine goes_value (v := .agg #[.int .i64 kz, .string tz, .bool nz, .slice zo zn zc, .slice uo un uc, .int .i64 az, .slice vo vn vc, .slice wo wn wc]) ?_ hC rfl
        simp only [execOp, Act.eval, b0]
        go_simp
      refine AllOps.cons ?_ ?_
      . intro ab W hC hB hdep
        obtain ⟨xg, (qg : xg = .bool true), eg⟩ := hdep 6 11 (by kernel_rfl)
        subst qg
        refine .inl ⟨((wanted_is (g := 6) (t := 11) (b := true) (c := true) rfl rfl (by rw [hB.size]; exact Nat.le_of_ble_eq_true rfl) eg).trans rfl), ?_⟩
        obtain ⟨x0, (q0 : (isV (.agg #[.int .i64 kz, .string tz, .bool nz, .slice zo zn zc, .slice uo un uc, .int .i64 az, .slice vo vn vc, .slice wo wn wc])) x0 W), e0⟩ := hdep 9 14 (by kernel_rfl)
        obtain rfl : x0 = .agg #[.int .i64 kz, .string tz, .bool nz, .slice zo zn zc, .slice uo un uc, .int .i64 az, .slice vo vn vc, .slice wo wn wc] := q0
        clear hB hdep
        refine goes_call (f := 73) (args := #[.agg #[.int .i64 kz, .string tz, .bool nz, .slice zo zn zc, .slice uo un uc, .int .i64 az, .slice vo vn vc, .slice wo wn wc]]) ?_ ?_
        . simp only [execOp]
          go_simp
        . exact (datum_any E.sz E (Nat.le_refl _) HSM.out.2 _ W (HE.out.keep (HB.out.trans (hC.mono HB.out.size)))).mono fun e w7 ⟨us7, he, hl, hb⟩ => ⟨_, he, hC.trans (hb.mono hC.size), hb, us7, rfl, hl.lay⟩
      refine AllOps.cons ?_ ?_
      . intro ab W hC hB hdep
        obtain ⟨xg, (qg : xg = .bool true), eg⟩ := hdep 6 11 (by kernel_rfl)
        subst qg
        refine .inl ⟨((wanted_is (g := 6) (t := 11) (b := true) (c := true) rfl rfl (by rw [hB.size]; exact Nat.le_of_ble_eq_true rfl) eg).trans rfl), ?_⟩
        obtain ⟨x0, (q0 : (isDm (dtm D)) x0 W), e0⟩ := hdep 8 13 (by kernel_rfl)
        skip
        obtain ⟨x1, (q1 : (isDm (dtm E)) x1 W), e1⟩ := hdep 10 15 (by kernel_rfl)
        skip
        clear hB hdep
        refine goes_call (f := 72) (args := #[x0, x1]) ?_ ?_
        . simp only [execOp]
          go_simp
        . obtain ⟨ua, rfl, hla⟩ := q0
          obtain ⟨ub, rfl, hlb⟩ := q1
          exact (dsame_any _ (dtm D) (dtm E) (Nat.le_refl _) ua ub W hla hlb).mono fun e w7 ⟨he, hb⟩ => ⟨_, he, hC.trans (hb.mono hC.size), hb, by show Value.bool _ = _; rw [HMM.out]⟩
      refine AllOps.cons ?_ ?_
      . intro ab W hC hB hdep
        refine .inl ⟨rfl, ?_⟩
        obtain ⟨x0, (q0 : (isV (.bool true)) x0 W), e0⟩ := hdep 6 11 (by kernel_rfl)
        obtain rfl : x0 = .bool true := q0
        obtain ⟨x1, (q1 : (isV (.bool true)) x1 W), e1⟩ := hdep 11 16 (by kernel_rfl)
        obtain rfl : x1 = .bool true := q1
        clear hB hdep
        refine goes_value (v := .bool true) ?_ hC rfl
        simp only [execOp, Act.eval, e0, e1]
        go_simp
      refine AllOps.cons ?_ ?_
      . intro ab W hC hB hdep
        refine .inl ⟨rfl, ?_⟩
        obtain ⟨x0, (q0 : (isV (.bool true)) x0 W), e0⟩ := hdep 12 17 (by kernel_rfl)
        obtain rfl : x0 = .bool true := q0
        clear hB hdep
        refine goes_value (v := .bool true) ?_ hC rfl
        simp only [execOp, Act.eval, e0]
        go_simp
      refine AllOps.cons ?_ ?_
      . intro ab W hC hB hdep
        obtain ⟨xg, (qg : xg = .bool true), eg⟩ := hdep 13 18 (by kernel_rfl)
        subst qg
        refine .inl ⟨((wanted_is (g := 13) (t := 18) (b := true) (c := true) rfl rfl (by rw [hB.size]; exact Nat.le_of_ble_eq_true rfl) eg).trans rfl), ?_⟩
        have b0 : ab.tmps.getD 2 undef = .pointer (some ⟨w.heap.size, 0, none⟩) := hB.off 2 (by kernel_rfl)
        obtain ⟨c0, c1, c2, c3, c4, c5, c6, c7⟩ := rowS8 ((hC.block _ HLT.out.1).trans HN.out.1)
        clear hB hdep
        refine goes_value (v := .agg #[.int .i64 kx, .string tx, .bool nx, .slice xo xn xc, .slice yo yn yc, .int .i64 ax, .slice po pn pc, .slice qo qn qc]) ?_ hC rfl
        simp only [execOp, Act.eval, b0]
        go_simp
      refine AllOps.cons ?_ ?_
      . intro ab W hC hB hdep
        obtain ⟨xg, (qg : xg = .bool true), eg⟩ := hdep 13 18 (by kernel_rfl)
        subst qg
        refine .inl ⟨((wanted_is (g := 13) (t := 18) (b := true) (c := true) rfl rfl (by rw [hB.size]; exact Nat.le_of_ble_eq_true rfl) eg).trans rfl), ?_⟩
        have b0 : ab.tmps.getD 3 undef = .pointer (some ⟨w.heap.size + 1, 0, none⟩) := hB.off 3 (by kernel_rfl)
        obtain ⟨c0, c1, c2, c3, c4, c5, c6, c7⟩ := rowS8 ((hC.block _ HLT.out.2).trans HN.out.2)
        clear hB hdep
        refine goes_value (v := .agg #[.int .i64 kz, .string tz, .bool nz, .slice zo zn zc, .slice uo un uc, .int .i64 az, .slice vo vn vc, .slice wo wn wc]) ?_ hC rfl
        simp only [execOp, Act.eval, b0]
        go_simp
      refine AllOps.cons ?_ ?_
      . intro ab W hC hB hdep
        obtain ⟨xg, (qg : xg = .bool true), eg⟩ := hdep 13 18 (by kernel_rfl)
        subst qg
        refine .inl ⟨((wanted_is (g := 13) (t := 18) (b := true) (c := true) rfl rfl (by rw [hB.size]; exact Nat.le_of_ble_eq_true rfl) eg).trans rfl), ?_⟩
        clear hB hdep
        refine goes_value (v := .agg #[.slice none 0 0, .slice none 0 0]) ?_ hC rfl
        simp only [execOp, Act.eval]
        go_simp
      refine AllOps.cons ?_ ?_
      . intro ab W hC hB hdep
        obtain ⟨xg, (qg : xg = .bool true), eg⟩ := hdep 13 18 (by kernel_rfl)
        subst qg
        refine .inl ⟨((wanted_is (g := 13) (t := 18) (b := true) (c := true) rfl rfl (by rw [hB.size]; exact Nat.le_of_ble_eq_true rfl) eg).trans rfl), ?_⟩
        clear hB hdep
        refine goes_value (v := .agg #[.slice none 0 0, .slice none 0 0]) ?_ hC rfl
        simp only [execOp, Act.eval]
        go_simp
      refine AllOps.cons ?_ ?_
      . intro ab W hC hB hdep
        obtain ⟨xg, (qg : xg = .bool true), eg⟩ := hdep 13 18 (by kernel_rfl)
        subst qg
        refine .inl ⟨((wanted_is (g := 13) (t := 18) (b := true) (c := true) rfl rfl (by rw [hB.size]; exact Nat.le_of_ble_eq_true rfl) eg).trans rfl), ?_⟩
        obtain ⟨x0, (q0 : (isV (.agg #[.int .i64 kx, .string tx, .bool nx, .slice xo xn xc, .slice yo yn yc, .int .i64 ax, .slice po pn pc, .slice qo qn qc])) x0 W), e0⟩ := hdep 14 19 (by kernel_rfl)
        obtain rfl : x0 = .agg #[.int .i64 kx, .string tx, .bool nx, .slice xo xn xc, .slice yo yn yc, .int .i64 ax, .slice po pn pc, .slice qo qn qc] := q0
        obtain ⟨x1, (q1 : (isV (.agg #[.int .i64 kz, .string tz, .bool nz, .slice zo zn zc, .slice uo un uc, .int .i64 az, .slice vo vn vc, .slice wo wn wc])) x1 W), e1⟩ := hdep 15 20 (by kernel_rfl)
        obtain rfl : x1 = .agg #[.int .i64 kz, .string tz, .bool nz, .slice zo zn zc, .slice uo un uc, .int .i64 az, .slice vo vn vc, .slice wo wn wc] := q1
        obtain ⟨x2, (q2 : (isV (.agg #[.slice none 0 0, .slice none 0 0])) x2 W), e2⟩ := hdep 16 21 (by kernel_rfl)
        obtain rfl : x2 = .agg #[.slice none 0 0, .slice none 0 0] := q2
        obtain ⟨x3, (q3 : (isV (.agg #[.slice none 0 0, .slice none 0 0])) x3 W), e3⟩ := hdep 17 22 (by kernel_rfl)
        obtain rfl : x3 = .agg #[.slice none 0 0, .slice none 0 0] := q3
        clear hB hdep
        refine goes_call (f := 74) (args := #[.agg #[.int .i64 kx, .string tx, .bool nx, .slice xo xn xc, .slice yo yn yc, .int .i64 ax, .slice po pn pc, .slice qo qn qc], .agg #[.int .i64 kz, .string tz, .bool nz, .slice zo zn zc, .slice uo un uc, .int .i64 az, .slice vo vn vc, .slice wo wn wc], .agg #[.slice none 0 0, .slice none 0 0], .agg #[.slice none 0 0, .slice none 0 0]]) ?_ ?_
        . simp only [execOp]
          go_simp
        . exact (alike_any 100 D E HDP.out _ _ W _ _ [] [] [] [] (HD.out.keep (HB.out.trans (hC.mono HB.out.size))) (HE.out.keep (HB.out.trans (hC.mono HB.out.size))) ⟨_, _, rfl, Iz.nil _, Iz.nil _⟩ ⟨_, _, rfl, Iz.nil _, Iz.nil _⟩).mono fun e w7 ⟨he, hb⟩ => ⟨_, he, hC.trans (hb.mono hC.size), hb, by show Value.bool _ = _; rw [HAL.out]⟩
      refine AllOps.cons ?_ ?_
      . intro ab W hC hB hdep
        refine .inl ⟨rfl, ?_⟩
        obtain ⟨x0, (q0 : (isV (.bool true)) x0 W), e0⟩ := hdep 13 18 (by kernel_rfl)
        obtain rfl : x0 = .bool true := q0
        obtain ⟨x1, (q1 : (isV (.bool al)) x1 W), e1⟩ := hdep 18 23 (by kernel_rfl)
        obtain rfl : x1 = .bool al := q1
        clear hB hdep
        refine goes_value (v := .bool al) ?_ hC rfl
        simp only [execOp, Act.eval, e0, e1]
        go_simp
      refine AllOps.cons ?_ ?_
      . intro ab W hC hB hdep
        refine .inl ⟨rfl, ?_⟩
        obtain ⟨x0, (q0 : (isV (.bool al)) x0 W), e0⟩ := hdep 19 24 (by kernel_rfl)
        obtain rfl : x0 = .bool al := q0
        clear hB hdep
        refine goes_value (v := .bool al) ?_ hC rfl
        simp only [execOp, Act.eval, e0]
        go_simp
      exact trivial
    . intro aa wC hC hB hall
      obtain ⟨v0, (k0 : v0 = .agg #[.int .i64 kx, .string tx, .bool nx, .slice xo xn xc, .slice yo yn yc, .int .i64 ax, .slice po pn pc, .slice qo qn qc]), e0⟩ := hall 0 _ rfl
      obtain ⟨v1, (k1 : v1 = .bool true), e1⟩ := hall 1 _ rfl
      obtain ⟨v2, (k2 : v2 = .bool true), e2⟩ := hall 2 _ rfl
      obtain ⟨v3, (k3 : v3 = .agg #[.int .i64 kz, .string tz, .bool nz, .slice zo zn zc, .slice uo un uc, .int .i64 az, .slice vo vn vc, .slice wo wn wc]), e3⟩ := hall 3 _ rfl
      obtain ⟨v4, (k4 : v4 = .bool true), e4⟩ := hall 4 _ rfl
      obtain ⟨v5, (k5 : v5 = .bool true), e5⟩ := hall 5 _ rfl
      obtain ⟨v6, (k6 : v6 = .bool true), e6⟩ := hall 6 _ rfl
      obtain ⟨v7, (k7 : v7 = .agg #[.int .i64 kx, .string tx, .bool nx, .slice xo xn xc, .slice yo yn yc, .int .i64 ax, .slice po pn pc, .slice qo qn qc]), e7⟩ := hall 7 _ rfl
      obtain ⟨v8, (k8 : (isDm (dtm D)) v8 wC), e8⟩ := hall 8 _ rfl
      obtain ⟨v9, (k9 : v9 = .agg #[.int .i64 kz, .string tz, .bool nz, .slice zo zn zc, .slice uo un uc, .int .i64 az, .slice vo vn vc, .slice wo wn wc]), e9⟩ := hall 9 _ rfl
      obtain ⟨v10, (k10 : (isDm (dtm E)) v10 wC), e10⟩ := hall 10 _ rfl
      obtain ⟨v11, (k11 : v11 = .bool true), e11⟩ := hall 11 _ rfl
      obtain ⟨v12, (k12 : v12 = .bool true), e12⟩ := hall 12 _ rfl
      obtain ⟨v13, (k13 : v13 = .bool true), e13⟩ := hall 13 _ rfl
      obtain ⟨v14, (k14 : v14 = .agg #[.int .i64 kx, .string tx, .bool nx, .slice xo xn xc, .slice yo yn yc, .int .i64 ax, .slice po pn pc, .slice qo qn qc]), e14⟩ := hall 14 _ rfl
      obtain ⟨v15, (k15 : v15 = .agg #[.int .i64 kz, .string tz, .bool nz, .slice zo zn zc, .slice uo un uc, .int .i64 az, .slice vo vn vc, .slice wo wn wc]), e15⟩ := hall 15 _ rfl
      obtain ⟨v16, (k16 : v16 = .agg #[.slice none 0 0, .slice none 0 0]), e16⟩ := hall 16 _ rfl
      obtain ⟨v17, (k17 : v17 = .agg #[.slice none 0 0, .slice none 0 0]), e17⟩ := hall 17 _ rfl
      obtain ⟨v18, (k18 : v18 = .bool al), e18⟩ := hall 18 _ rfl
      obtain ⟨v19, (k19 : v19 = .bool al), e19⟩ := hall 19 _ rfl
      obtain ⟨v20, (k20 : v20 = .bool al), e20⟩ := hall 20 _ rfl
      subst k0 k1 k2 k3 k4 k5 k6 k7 k9 k11 k12 k13 k14 k15 k16 k17 k18 k19 k20
      have hv : ∀ pq ∈ [((5 : Nat), (.agg #[.int .i64 kx, .string tx, .bool nx, .slice xo xn xc, .slice yo yn yc, .int .i64 ax, .slice po pn pc, .slice qo qn qc] : Value)), ((6 : Nat), (.bool true : Value)), ((7 : Nat), (.bool true : Value)), ((8 : Nat), (.agg #[.int .i64 kz, .string tz, .bool nz, .slice zo zn zc, .slice uo un uc, .int .i64 az, .slice vo vn vc, .slice wo wn wc] : Value)), ((9 : Nat), (.bool true : Value)), ((10 : Nat), (.bool true : Value)), ((11 : Nat), (.bool true : Value)), ((12 : Nat), (.agg #[.int .i64 kx, .string tx, .bool nx, .slice xo xn xc, .slice yo yn yc, .int .i64 ax, .slice po pn pc, .slice qo qn qc] : Value)), ((13 : Nat), (v8 : Value)), ((14 : Nat), (.agg #[.int .i64 kz, .string tz, .bool nz, .slice zo zn zc, .slice uo un uc, .int .i64 az, .slice vo vn vc, .slice wo wn wc] : Value)), ((15 : Nat), (v10 : Value)), ((16 : Nat), (.bool true : Value)), ((17 : Nat), (.bool true : Value)), ((18 : Nat), (.bool true : Value)), ((19 : Nat), (.agg #[.int .i64 kx, .string tx, .bool nx, .slice xo xn xc, .slice yo yn yc, .int .i64 ax, .slice po pn pc, .slice qo qn qc] : Value)), ((20 : Nat), (.agg #[.int .i64 kz, .string tz, .bool nz, .slice zo zn zc, .slice uo un uc, .int .i64 az, .slice vo vn vc, .slice wo wn wc] : Value)), ((21 : Nat), (.agg #[.slice none 0 0, .slice none 0 0] : Value)), ((22 : Nat), (.agg #[.slice none 0 0, .slice none 0 0] : Value)), ((23 : Nat), (.bool al : Value)), ((24 : Nat), (.bool al : Value)), ((4 : Nat), (.bool al : Value))], aa.tmps.getD pq.1 undef = pq.2 := by
       intro pq hp
       simp only [List.mem_cons, List.not_mem_nil, or_false] at hp
       rcases hp with rfl | rfl | rfl | rfl | rfl | rfl | rfl | rfl | rfl | rfl | rfl | rfl | rfl | rfl | rfl | rfl | rfl | rfl | rfl | rfl | rfl
       . exact e0 _ rfl
       . exact e1 _ rfl
       . exact e2 _ rfl
       . exact e3 _ rfl
       . exact e4 _ rfl
       . exact e5 _ rfl
       . exact e6 _ rfl
       . exact e7 _ rfl
       . exact e8 _ rfl
       . exact e9 _ rfl
       . exact e10 _ rfl
       . exact e11 _ rfl
       . exact e12 _ rfl
       . exact e13 _ rfl
       . exact e14 _ rfl
       . exact e15 _ rfl
       . exact e16 _ rfl
       . exact e17 _ rfl
       . exact e18 _ rfl
       . exact e19 _ rfl
       . exact e20 _ rfl
      have hact := act_fold _ hB hv (by kernel_rfl)
      subst hact
      clear hv hall hB e0 e1 e2 e3 e4 e5 e6 e7 e8 e9 e10 e11 e12 e13 e14 e15 e16 e17 e18 e19 e20
      refine (‹∀ (a : Act) (w : World), Code.wp Tryz.prog _ _ a w → _›) _ wC ?_
      simp only [List.foldl, List.setIfInBounds_toArray, List.set_cons_succ, List.set_cons_zero]
      have HC := Lib.hid (HB.out.trans (hC.mono HB.out.size))
      clear hC
      go_wp2_with fail
      go_ret
      exact ⟨by rw [HF.out]; rfl, HC.out⟩
end Go.Proofs.YtbfcbicbeagjkaaGreatDoor
