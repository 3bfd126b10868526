/- x -/
import Derived.Test.YtbfcbicbeagjkaaGreatDoorSxBare
import Derived.Test.YtbfcbicbeagjkaaGreatDoorWpRJoin
import Derived.Test.YtbfcbicbeagjkaaGreatDoorSxJn
namespace Go.Proofs.YtbfcbicbeagjkaaGreatDoor
open Go.RowKit
theorem keepS8 (P : Nat → Prop) (W : World) (g : Nat) (hp : ¬ P g) (b0 b1 b2 b3 b4 b5 b6 b7 : Value) : Keeps P W ((((((((W.setCell ⟨g, 0, none⟩ b0).setCell ⟨g, 1, none⟩ b1).setCell ⟨g, 2, none⟩ b2).setCell ⟨g, 3, none⟩ b3).setCell ⟨g, 4, none⟩ b4).setCell ⟨g, 5, none⟩ b5).setCell ⟨g, 6, none⟩ b6).setCell ⟨g, 7, none⟩ b7) :=
 ((((((((Keeps.refl P W).set (p := ⟨g, 0, none⟩) hp b0).set (p := ⟨g, 1, none⟩) hp b1).set (p := ⟨g, 2, none⟩) hp b2).set (p := ⟨g, 3, none⟩) hp b3).set (p := ⟨g, 4, none⟩) hp b4).set (p := ⟨g, 5, none⟩) hp b5).set (p := ⟨g, 6, none⟩) hp b6).set (p := ⟨g, 7, none⟩) hp b7
theorem belowS8 {B : Nat} {w W : World} (h : Below B w W) {g : Nat} (hg : B ≤ g) (b0 b1 b2 b3 b4 b5 b6 b7 : Value) : Below B w ((((((((W.setCell ⟨g, 0, none⟩ b0).setCell ⟨g, 1, none⟩ b1).setCell ⟨g, 2, none⟩ b2).setCell ⟨g, 3, none⟩ b3).setCell ⟨g, 4, none⟩ b4).setCell ⟨g, 5, none⟩ b5).setCell ⟨g, 6, none⟩ b6).setCell ⟨g, 7, none⟩ b7) :=
 (((((((h.setCell (p := ⟨g, 0, none⟩) hg b0).setCell (p := ⟨g, 1, none⟩) hg b1).setCell (p := ⟨g, 2, none⟩) hg b2).setCell (p := ⟨g, 3, none⟩) hg b3).setCell (p := ⟨g, 4, none⟩) hg b4).setCell (p := ⟨g, 5, none⟩) hg b5).setCell (p := ⟨g, 6, none⟩) hg b6).setCell (p := ⟨g, 7, none⟩) hg b7
structure SxS (Q : Nat → Prop) (B0 g : Nat) (w0 : World) (ls : List Sx) (v : Value) (j : Nat) (us : List Value) (W : World) : Prop where
 own : W.ownsRow (g + 1) 35 8 v j us
 row : SxRow (fun b => (Q b ∧ b ≠ g) ∧ v.ownBlock ≠ some b) W (ls.take j) us
 bel : Below B0 w0 W
 lt : g < W.heap.size
 le : B0 ≤ g
theorem SxS.below {Q : Nat → Prop} {B0 g : Nat} {w0 : World} {ls : List Sx} {v : Value} {j : Nat} {us : List Value} {W W' : World} (h : SxS Q B0 g w0 ls v j us W) (hb : Below W.heap.size W W') : SxS Q B0 g w0 ls v j us W' :=
 ⟨ownsRow_keep h.own (Keeps.of_below (P := fun _ => True) hb) fun _ _ => trivial, h.row.move (Keeps.of_below hb), h.bel.trans (hb.mono (by have := h.le; have := h.lt; omega)), Nat.lt_of_lt_of_le h.lt hb.size, h.le⟩
theorem SxS.far {Q : Nat → Prop} {B0 g : Nat} {w0 : World} {ls : List Sx} {v : Value} {j : Nat} {us : List Value} {W : World} (h : SxS Q B0 g w0 ls v j us W) : ∀ b, v.ownBlock = some b → b ≠ g := fun b hb e => by have := (h.own.lt b hb).1; omega
theorem SxS.appended {Q : Nat → Prop} {B0 g : Nat} {w0 : World} {ls : List Sx} {v v' : Value} {j : Nat} {us cs : List Value} {Wr W W' : World} (h : SxS Q B0 g w0 ls v j us Wr) (hb : Below Wr.heap.size Wr W) {d : Sx} (hd : ls[j]? = some d) (hl : SLayP (fun b => (Q b ∧ b ≠ g) ∧ v.ownBlock ≠ some b) W d cs)
 (hown : W'.ownsRow (g + 1) 35 8 v' (j + 1) (us ++ cs)) (hgrow : W.grownBy W' v.ownBlock) (hm : MovedTo W v v') : SxS Q B0 g w0 ls v' (j + 1) (us ++ cs) W' := by
 have h1 := h.below hb
 have hlt := h.lt
 have hle := h.le
 have hr := h1.row.appended hl hgrow hm
 refine ⟨hown, ?_, h1.bel.grown hgrow (by have := h1.lt; omega) (fun q hq => by have := (h1.own.lt q hq).1; omega), Nat.lt_of_lt_of_le h1.lt hgrow.size, hle⟩
 rw [List.take_add_one, hd]; exact hr
theorem SxS.store {Q : Nat → Prop} {B0 g : Nat} {w0 : World} {ls : List Sx} {v : Value} {j : Nat} {us : List Value} {W : World} (h : SxS Q B0 g w0 ls v j us W) (o : Nat) (u : Value) : SxS Q B0 g w0 ls v j us (W.setCell ⟨g, o, none⟩ u) := by
 have hk : Keeps (fun b => (Q b ∧ b ≠ g) ∧ v.ownBlock ≠ some b) W (W.setCell ⟨g, o, none⟩ u) := (Keeps.refl _ W).set (p := ⟨g, o, none⟩) (fun hp => hp.1.2 rfl) u
 exact ⟨ownsRow_keep h.own ((Keeps.refl (fun b => b ≠ g) W).set (p := ⟨g, o, none⟩) (fun hp => hp rfl) u) h.far, h.row.move hk, h.bel.setCell (p := ⟨g, o, none⟩) h.le u, by have := h.lt; simpa using this, h.le⟩
theorem fltB_bad {m s : List Int} {k : Int} {t : ByteArray} {n : Bool} {r : List Nat} {l : List Sx} {a : Int} {dm ds : List Int} (h : (wjA m s dm ds).2.2 ≠ 0) : fltB m s (.mk k t n r l a dm ds) = false := by rw [fltB_mk, decide_eq_false h, Bool.false_and]
theorem fltB_not {m s : List Int} {k : Int} {t : ByteArray} {n : Bool} {r : List Nat} {l : List Sx} {a : Int} {dm ds : List Int} {j : Nat} (hj : j < l.length) (h : fltB (wjA m s dm ds).1 (wjA m s dm ds).2.1 (l[j]'hj) = false) : fltB m s (.mk k t n r l a dm ds) = false := by
 rw [fltB_mk, Bool.and_eq_false_iff]
 right
 rw [List.all_eq_false]
 exact ⟨_, List.getElem_mem hj, by rw [h]; decide⟩
theorem fltB_yes {m s : List Int} {k : Int} {t : ByteArray} {n : Bool} {r : List Nat} {l : List Sx} {a : Int} {dm ds : List Int} (h0 : (wjA m s dm ds).2.2 = 0) (h : ∀ (j : Nat) (hj : j < l.length), fltB (wjA m s dm ds).1 (wjA m s dm ds).2.1 (l[j]'hj) = true) : fltB m s (.mk k t n r l a dm ds) = true := by
 rw [fltB_mk, decide_eq_true h0, Bool.true_and, List.all_eq_true]
 intro x hx
 obtain ⟨j, hj, rfl⟩ := List.mem_iff_getElem.1 hx
 exact h j hj
def FlPost (N0 : Nat) (m s : List Int) (D : Sx) (w : World) (e : Ending) (w' : World) : Prop :=
 (∃ y0 y1 y2 yo yn yc zo zn zc y5 po pn pc qo qn qc, e = .returned (.tuple #[.agg #[.int .i64 y0, .string y1, .bool y2, .slice yo yn yc, .slice zo zn zc, .int .i64 y5, .slice po pn pc, .slice qo qn qc], .bool (fltB m s D)]) ∧ (fltB m s D = true → SLayP (fun b => b < N0 ∨ w.heap.size ≤ b) w' (fltS m s D) [.int .i64 y0, .string y1, .bool y2, .slice yo yn yc, .slice zo zn zc, .int .i64 y5, .slice po pn pc, .slice qo qn qc])) ∧ Below w.heap.size w w'
set_option maxRecDepth 100000 in
set_option maxHeartbeats 8000000 in
theorem sflat_any : ∀ (kk : Nat) (D : Sx), D.sz ≤ kk → SmS 1100000 D → ∀ (N0 : Nat) (us : List Value) (w : World) (mv sv : Value) (m s : List Int), SLayP (fun b => b < N0) w D us → N0 ≤ w.heap.size → Iz w mv m → Iz w sv s → Calls Tryz.prog 71 #[.agg us.toArray, mv, sv] w (FlPost N0 m s D w) := by
 obtain ⟨i0, hi, hz0, hz1, hz2⟩ := info_parts infoSx
 have HI := Lib.hid (And.intro hi (And.intro hz0 (And.intro hz1 hz2)))
 clear hi hz0 hz1 hz2
 intro kk
 induction kk with
 | zero => intro D h; have := D.sz_pos; omega
 | succ kk ih =>
  intro D hsz hsm N0 us w mv0 sv0 m s h1 hN hm0 hs0
  have HIH := Lib.hid ih
  clear ih
  have HN0 := Lib.hid hN
  have HM0 := Lib.hid hm0
  have HS0 := Lib.hid hs0
  obtain ⟨_, ma0, mc0, rfl, _, _⟩ := hm0.cases
  obtain ⟨_, sa0, sc0, rfl, _, _⟩ := hs0.cases
  generalize m.length = ml0 at *
  generalize s.length = sl0 at *
  clear hm0 hs0
  obtain ⟨k, t, n, r, l, a, dm, ds⟩ := D
  have HSZ : Hid (∀ (j : Nat) (h : j < l.length), (l[j]'h).sz ≤ kk) := Lib.hid fun j h => by
   have := Sx.sz_mem (d := .mk k t n r l a dm ds) (x := l[j]) (List.getElem_mem h)
   omega
  obtain ⟨hs1, hs2, hs3, _, _, hs6⟩ := hsm.open'
  obtain ⟨lv, av, mv, sv, xs, rfl, hts, hlim, hrr, hrp, hrow1, hap, hrm, _, hrs, _, hin1⟩ := h1.row
  simp only [Sx.k, Sx.t, Sx.n, Sx.r, Sx.l, Sx.a, Sx.m, Sx.s] at hs1 hs2 hs3 hs6
  have HTL := Lib.hid (And.intro hts hlim)
  have HSM := Lib.hid hs6
  have HLL := Lib.hid hs3
  have HI1 := Lib.hid hin1
  have HW1 := Lib.hid hrow1
  have HAP := Lib.hid hap
  have HRR := Lib.hid hrr
  have HRP := Lib.hid hrp
  have HDM : Hid (Iz w mv dm) := Lib.hid hrm
  have HDS0 : Hid (Iz w sv ds) := Lib.hid hrs
  have hmx : l.length ≤ 9223372036854775807 := by omega
  have HMX := Lib.hid hmx
  obtain ⟨ao, cv0, rfl⟩ : ∃ o c, av = .slice o l.length c := by obtain ⟨_, _, o, c, h, _⟩ := hrow1; exact ⟨o, c, h⟩
  obtain ⟨lo, lc, rfl⟩ : ∃ o c, lv = .slice o r.length c := by obtain ⟨_, _, o, c, h, _⟩ := hrr; exact ⟨o, c, h⟩
  obtain ⟨mo, mc, rfl⟩ : ∃ o c, mv = .slice o dm.length c := by obtain ⟨_, _, o, c, h, _⟩ := hrm; exact ⟨o, c, h⟩
  obtain ⟨so, sc, rfl⟩ : ∃ o c, sv = .slice o ds.length c := by obtain ⟨_, _, o, c, h, _⟩ := hrs; exact ⟨o, c, h⟩
  clear h1 hsm hs1 hs2 hs3 hs6 hts hlim hrr hrp hrow1 hap hrm hrs hin1 hmx hN hsz
  have hb1 := below2 w (.cells #[.int .i64 k, .string t, .bool n, .slice lo r.length lc, .slice ao l.length cv0, .int .i64 a, .slice mo dm.length mc, .slice so ds.length sc] 35) (.cells #[.int .i64 0, .string ⟨#[]⟩, .bool false, .slice none 0 0, .slice none 0 0, .int .i64 0, .slice none 0 0, .slice none 0 0] 35)
  have hn1 := @newsd2 w (.cells #[.int .i64 k, .string t, .bool n, .slice lo r.length lc, .slice ao l.length cv0, .int .i64 a, .slice mo dm.length mc, .slice so ds.length sc] 35) (.cells #[.int .i64 0, .string ⟨#[]⟩, .bool false, .slice none 0 0, .slice none 0 0, .int .i64 0, .slice none 0 0, .slice none 0 0] 35)
  have hsz1 : ((w.alloc (.cells #[.int .i64 k, .string t, .bool n, .slice lo r.length lc, .slice ao l.length cv0, .int .i64 a, .slice mo dm.length mc, .slice so ds.length sc] 35)).alloc (.cells #[.int .i64 0, .string ⟨#[]⟩, .bool false, .slice none 0 0, .slice none 0 0, .int .i64 0, .slice none 0 0, .slice none 0 0] 35)).heap.size = w.heap.size + 2 := by simp
  show Calls Tryz.prog 71 #[.agg #[.int .i64 k, .string t, .bool n, .slice lo r.length lc, .slice ao l.length cv0, .int .i64 a, .slice mo dm.length mc, .slice so ds.length sc], .slice ma0 ml0 mc0, .slice sa0 sl0 sc0] w _
  go_enter Tryz.func71, Tryz.ntmps71
  go_upto_region 1 with fail
  generalize (w.alloc (.cells #[.int .i64 k, .string t, .bool n, .slice lo r.length lc, .slice ao l.length cv0, .int .i64 a, .slice mo dm.length mc, .slice so ds.length sc] 35)).alloc (.cells #[.int .i64 0, .string ⟨#[]⟩, .bool false, .slice none 0 0, .slice none 0 0, .int .i64 0, .slice none 0 0, .slice none 0 0] 35) = W1 at *
  have HB1 := Lib.hid hb1
  have HX1 := Lib.hid hn1.1
  have HZ1 := Lib.hid hn1.2
  have HS1 := Lib.hid hsz1
  clear hb1 hn1 hsz1
  obtain ⟨c0, c1, c2, c3, c4, c5, c6, c7⟩ := rowS8 HX1.out
  go_wp2_with fail
  refine (rjoinP_any _ _ _ _ m s dm ds W1 (HM0.out.below HB1.out) (HS0.out.below HB1.out) (HDM.out.below HB1.out) (HDS0.out.below HB1.out)).mono ?_
  rintro e W2 ⟨⟨jm, js, rfl, hjm, hjs, hnm, hns⟩, hb2⟩
  obtain ⟨q, HQ⟩ : ∃ q, Hid (wjA m s dm ds = q) := ⟨_, Lib.hid rfl⟩
  rw [HQ.out] at hjm hjs ⊢
  obtain ⟨_, oa, oc, rfl, _, _⟩ := hjm.cases
  obtain ⟨_, ta, tc, rfl, _, _⟩ := hjs.cases
  have HJ := Lib.hid (And.intro hjm (And.intro hjs (And.intro hnm hns)))
  have HB2 := Lib.hid (HB1.out.trans (hb2.mono HB1.out.size))
  have HS2 : Hid (w.heap.size + 2 ≤ W2.heap.size) := Lib.hid (by have := HS1.out; have := hb2.size; omega)
  have HX2 := Lib.hid ((hb2.block _ (Array.getElem?_eq_some_iff.1 HX1.out).1).trans HX1.out)
  have HZ2 := Lib.hid ((hb2.block _ (Array.getElem?_eq_some_iff.1 HZ1.out).1).trans HZ1.out)
  have HN1 : Hid (w.heap.size ≤ W1.heap.size) := Lib.hid HB1.out.size
  obtain ⟨ol, hol⟩ : ∃ x, x = q.1.length := ⟨_, rfl⟩
  obtain ⟨tl, htl⟩ : ∃ x, x = q.2.1.length := ⟨_, rfl⟩
  rw [← hol, ← htl] at HJ ⊢
  have HOL := Lib.hid (And.intro hol htl)
  clear hjm hjs hnm hns hb2 c0 c1 c2 c3 c4 c5 c6 c7 HX1 HZ1 hol htl
  by_cases h0 : q.2.2 = 0
  case neg =>
   have HV := Lib.hid (fltB_bad (k := k) (t := t) (n := n) (r := r) (l := l) (a := a) (show (wjA m s dm ds).2.2 ≠ 0 by rw [HQ.out]; exact h0))
   have hd : (q.2.2 != 0) = true := by rw [bne_iff_ne]; exact h0
   clear h0
   have HRS := Lib.hid HZ2.out
   have HBW := Lib.hid HB2.out
   generalize q.2.2 = q3 at *
   generalize hww : W2 = WW at *
   clear hww
   have hz := HRS.out
   have q0 := frozen_heap hz 0
   have q1 := frozen_heap hz 1
   have q2 := frozen_heap hz 2
   have q3 := frozen_heap hz 3
   have q4 := frozen_heap hz 4
   have q5 := frozen_heap hz 5
   have q6 := frozen_heap hz 6
   have q7 := frozen_heap hz 7
   obtain ⟨d0, d1, d2, d3, d4, d5, d6, d7⟩ := rowS8 hz
   have hrow := fillS hz (.int .i64 0) (.string ⟨#[]⟩) (.bool false) (.slice none 0 0) (.slice none 0 0) (.int .i64 0) (.slice none 0 0) (.slice none 0 0)
   have hkp := keepS8 (fun b => b ≠ w.heap.size + 1) WW (w.heap.size + 1) (by simp) (.int .i64 0) (.string ⟨#[]⟩) (.bool false) (.slice none 0 0) (.slice none 0 0) (.int .i64 0) (.slice none 0 0) (.slice none 0 0)
   have hbf := belowS8 HBW.out (show w.heap.size ≤ w.heap.size + 1 by omega) (.int .i64 0) (.string ⟨#[]⟩) (.bool false) (.slice none 0 0) (.slice none 0 0) (.int .i64 0) (.slice none 0 0) (.slice none 0 0)
   have HF := Lib.hid (And.intro hrow (And.intro hkp hbf))
   clear hrow hkp hbf hz
   go_wp2_with fail
   clear d0 d1 d2 d3 d4 d5 d6 d7 q0 q1 q2 q3 q4 q5 q6 q7
   generalize World.setCell _ ⟨w.heap.size + 1, 7, none⟩ (.slice none 0 0) = W9 at *
   obtain ⟨g0, g1, g2, g3, g4, g5, g6, g7⟩ := rowS8 HF.out.1
   refine bodyPost_ret (v := .tuple #[.agg #[.int .i64 0, .string ⟨#[]⟩, .bool false, .slice none 0 0, .slice none 0 0, .int .i64 0, .slice none 0 0, .slice none 0 0], .bool false]) (by simp [results, Tryz.results71, go_sem, g0, g1, g2, g3, g4, g5, g6, g7]) rfl ?_
   unfold FlPost
   rw [HV.out]
   exact ⟨⟨_, _, _, _, _, _, _, _, _, _, _, _, _, _, _, _, rfl, fun h => by cases h⟩, HF.out.2.2⟩
  rw [h0]
  have HQ0 := Lib.hid h0
  clear h0
  have hb3 := below1 W2 (.cells #[.int .i64 k, .string t, .bool n, .slice lo r.length lc, .slice none 0 0, .int .i64 a, .slice none 0 0, .slice none 0 0] 35)
  have hn3 := heap_alloc_new W2 (.cells #[.int .i64 k, .string t, .bool n, .slice lo r.length lc, .slice none 0 0, .int .i64 a, .slice none 0 0, .slice none 0 0] 35)
  obtain ⟨c0, c1, c2, c3, c4, c5, c6, c7⟩ := rowS8 HX2.out
  go_upto_region 5 with fail
  clear c0 c1 c2 c3 c4 c5 c6 c7
  generalize W2.alloc (.cells #[.int .i64 k, .string t, .bool n, .slice lo r.length lc, .slice none 0 0, .int .i64 a, .slice none 0 0, .slice none 0 0] 35) = W3 at *
  have HD3 := Lib.hid hn3
  have HDS3 : Hid (SxS (fun b => b < N0 ∨ w.heap.size + 2 ≤ b) W2.heap.size W2.heap.size W2 (l.map (fltS q.1 q.2.1)) (.slice none 0 0) 0 [] W3) := Lib.hid
   ⟨World.ownsRow_nil _ _ _ _, by rw [List.take_zero]; exact SxRow.nil _ _, hb3, (Array.getElem?_eq_some_iff.1 hn3).1, Nat.le_refl _⟩
  clear hb3 hn3
  go_wp2_with fail
  go_loopw [12] (fun v wr => ∃ (j : Nat) (us' : List Value) (vv : Value), v = .int .i64 (j : Nat) ∧ j ≤ l.length ∧ (∀ (i : Nat) (h : i < l.length), i < j → fltB q.1 q.2.1 (l[i]'h) = true) ∧ wr.heap[W2.heap.size]? = some (.cells #[.int .i64 k, .string t, .bool n, .slice lo r.length lc, vv, .int .i64 a, .slice none 0 0, .slice none 0 0] 35 (0, 0)) ∧ SxS (fun b => b < N0 ∨ w.heap.size + 2 ≤ b) W2.heap.size W2.heap.size W2 (l.map (fltS q.1 q.2.1)) vv j us' wr) (fun v _ => l.length - (intOf v).toNat)
  case atStart => exact ⟨0, [], _, rfl, Nat.zero_le _, fun i _ h => by omega, HD3.out, HDS3.out⟩
  case round =>
   obtain ⟨j, us', vv, rfl, hj, hall, hbx, hds⟩ := hrel
   obtain ⟨vo, vc, rfl⟩ := own_dslice hds.own
   have hmx := HMX.out
   have HALL := Lib.hid hall
   have HBX := Lib.hid hbx
   have HDS := Lib.hid hds
   have hss := HS2.out
   have HRS := Lib.hid ((hds.bel.block (w.heap.size + 1) (by omega)).trans HZ2.out)
   have HXR := Lib.hid ((hds.bel.block w.heap.size (by omega)).trans HX2.out)
   have HBW : Hid (Below w.heap.size w wr) := Lib.hid (HB2.out.trans (hds.bel.mono (by omega)))
   clear hall hbx hds hss
   obtain ⟨c0, c1, c2, c3, c4, c5, c6, c7⟩ := rowS8 HXR.out
   by_cases hjl : j < l.length
   . have hii : ((j : Nat) : Int) < ((l.length : Nat) : Int) := by omega
     have hkp : Keeps (fun b => b < N0) w wr := ⟨HBW.out.size, fun b hb _ => HBW.out.block b hb⟩
     obtain ⟨b, off, cap, v0, v1, v2, v3, v4, v5, v6, v7, hav, _, _, hly, p0, p1, p2, p3, p4, p5, p6, p7⟩ := row_sxP (HW1.out.move HAP.out hkp) (HI1.out.move hkp) hjl
     simp only [Value.slice.injEq, true_and] at hav
     obtain ⟨rfl, rfl⟩ := hav
     have HY := Lib.hid hly
     clear hly hkp
     go_wp2_with fail
     clear p0 p1 p2 p3 p4 p5 p6 p7 c0 c1 c2 c3 c4 c5 c6 c7
     refine (HIH.out (l[j]'hjl) (HSZ.out j hjl) (HSM.out j hjl) N0 [v0, v1, v2, v3, v4, v5, v6, v7] _ _ _ q.1 q.2.1 HY.out (Nat.le_trans HN0.out HBW.out.size) (by rw [HOL.out.1] at HJ ⊢; exact HJ.out.1.below HDS.out.bel) (by rw [HOL.out.2] at HJ ⊢; exact HJ.out.2.1.below HDS.out.bel)).mono ?_
     rintro e w3 ⟨⟨y0, y1, y2, yo, yn, yc, zo, zn, zc, y5, po, pn, pc, qo, qn, qc, rfl, hyes⟩, hb3⟩
     have HA3 := Lib.hid hb3
     have HYES := Lib.hid hyes
     have hb4 := below1 w3 (.cells #[.int .i64 y0, .string y1, .bool y2, .slice yo yn yc, .slice zo zn zc, .int .i64 y5, .slice po pn pc, .slice qo qn qc] 35)
     have hx4 := heap_alloc_new w3 (.cells #[.int .i64 y0, .string y1, .bool y2, .slice yo yn yc, .slice zo zn zc, .int .i64 y5, .slice po pn pc, .slice qo qn qc] 35)
     clear hb3 hyes
     go_upto_region 9 with fail
     generalize w3.alloc (.cells #[.int .i64 y0, .string y1, .bool y2, .slice yo yn yc, .slice zo zn zc, .int .i64 y5, .slice po pn pc, .slice qo qn qc] 35) = w4 at *
     have HA4 := Lib.hid (HA3.out.trans (hb4.mono HA3.out.size))
     have H34 := Lib.hid hb4
     have HX4 := Lib.hid hx4
     clear hb4 hx4
     cases hdp : fltB q.1 q.2.1 (l[j]'hjl) with
     | false =>
      have HV := Lib.hid (fltB_not (m := m) (s := s) (k := k) (t := t) (n := n) (r := r) (a := a) (dm := dm) (ds := ds) hjl (by rw [HQ.out]; exact hdp))
      clear hdp
      have HRS := Lib.hid ((HA4.out.block _ (Array.getElem?_eq_some_iff.1 HRS.out).1).trans HRS.out)
      have HBW := Lib.hid (HBW.out.trans (HA4.out.mono HBW.out.size))
      generalize hww : w4 = WW at *
      clear hww
      have hz := HRS.out
      have q0 := frozen_heap hz 0
      have q1 := frozen_heap hz 1
      have q2 := frozen_heap hz 2
      have q3 := frozen_heap hz 3
      have q4 := frozen_heap hz 4
      have q5 := frozen_heap hz 5
      have q6 := frozen_heap hz 6
      have q7 := frozen_heap hz 7
      obtain ⟨d0, d1, d2, d3, d4, d5, d6, d7⟩ := rowS8 hz
      have hrow := fillS hz (.int .i64 0) (.string ⟨#[]⟩) (.bool false) (.slice none 0 0) (.slice none 0 0) (.int .i64 0) (.slice none 0 0) (.slice none 0 0)
      have hkp := keepS8 (fun b => b ≠ w.heap.size + 1) WW (w.heap.size + 1) (by simp) (.int .i64 0) (.string ⟨#[]⟩) (.bool false) (.slice none 0 0) (.slice none 0 0) (.int .i64 0) (.slice none 0 0) (.slice none 0 0)
      have hbf := belowS8 HBW.out (show w.heap.size ≤ w.heap.size + 1 by omega) (.int .i64 0) (.string ⟨#[]⟩) (.bool false) (.slice none 0 0) (.slice none 0 0) (.int .i64 0) (.slice none 0 0) (.slice none 0 0)
      have HF := Lib.hid (And.intro hrow (And.intro hkp hbf))
      clear hrow hkp hbf hz
      go_wp2_with fail
      clear d0 d1 d2 d3 d4 d5 d6 d7 q0 q1 q2 q3 q4 q5 q6 q7
      generalize World.setCell _ ⟨w.heap.size + 1, 7, none⟩ (.slice none 0 0) = W9 at *
      obtain ⟨g0, g1, g2, g3, g4, g5, g6, g7⟩ := rowS8 HF.out.1
      refine bodyPost_ret (v := .tuple #[.agg #[.int .i64 0, .string ⟨#[]⟩, .bool false, .slice none 0 0, .slice none 0 0, .int .i64 0, .slice none 0 0, .slice none 0 0], .bool false]) (by simp [results, Tryz.results71, go_sem, g0, g1, g2, g3, g4, g5, g6, g7]) rfl ?_
      unfold FlPost
      rw [HV.out]
      exact ⟨⟨_, _, _, _, _, _, _, _, _, _, _, _, _, _, _, _, rfl, fun h => by cases h⟩, HF.out.2.2⟩
     | true =>
      have HV := Lib.hid hdp
      have hly4 := (HYES.out hdp).move (Keeps.of_below H34.out)
      have HL4 := Lib.hid hly4
      have H1 := Lib.hid (one_cellsS hly4)
      clear hdp hly4
      have hg4 := (HA4.out.block _ HDS.out.lt).trans HBX.out
      obtain ⟨e0, e1, e2, e3, e4, e5, e6, e7⟩ := rowS8 hg4
      obtain ⟨d0, d1, d2, d3, d4, d5, d6, d7⟩ := rowS8 HX4.out
      have hrow5 := rowS1 w4 [.int .i64 y0, .string y1, .bool y2, .slice yo yn yc, .slice zo zn zc, .int .i64 y5, .slice po pn pc, .slice qo qn qc] rfl
      have HR5 := Lib.hid hrow5
      have H45 := Lib.hid (below1 w4 (.cells #[.int .i64 y0, .string y1, .bool y2, .slice yo yn yc, .slice zo zn zc, .int .i64 y5, .slice po pn pc, .slice qo qn qc] 35))
      have HA5 := Lib.hid (HA4.out.trans (H45.out.mono HA4.out.size))
      have HDS5 := Lib.hid (HDS.out.below HA5.out)
      have HG5 := Lib.hid ((HA5.out.block _ HDS.out.lt).trans HBX.out)
      have HLY5 := Lib.hid (HL4.out.move (Keeps.of_below H45.out))
      clear hg4 hrow5
      go_wp2_with (at_builtin; go_loud (refine wpList_append_row _ rfl _ _ 33 rfl (W2.heap.size + 1) 35 i0 _ 8 136 Tryz.underlying33 HI.out.1 HI.out.2.1 HI.out.2.2.1 HI.out.2.2.2 rfl (by decide) _ j us' rfl HDS5.out.own _ 1 [.int .i64 y0, .string y1, .bool y2, .slice yo yn yc, .slice zo zn zc, .int .i64 y5, .slice po pn pc, .slice qo qn qc] rfl HR5.out H1.out (by have := HLL.out; unfold maxLen; omega) (by have := HLL.out; omega) (by have := HDS5.out.lt; omega) ?_); go_loud (intro v' w6 hown6 hgrow6 hmv6; obtain ⟨a6, d6, rfl⟩ := own_dslice hown6; have HD6 := Lib.hid (HDS.out.appended HA5.out (d := fltS q.1 q.2.1 (l[j]'hjl)) (by simp [hjl]) (HLY5.out.mono fun b hb hp => (by have h1 := HDS.out.lt; have h2 := HN0.out; have h3 := HBW.out.size; have h4 := HS2.out; exact ⟨⟨by omega, by omega⟩, fun e => by have := HDS.out.own.lt b e; omega⟩)) hown6 hgrow6 hmv6); have hg6 := (hgrow6.block _ HDS5.out.lt (fun e => HDS5.out.far W2.heap.size (by first | exact e | exact e.symm) rfl)).trans HG5.out; have HG6 := Lib.hid hg6; have s4 := cell_heap hg6 4; have z4 := frozen_heap hg6 4; clear hown6 hgrow6 hmv6 hg6))
      go_roundw
      case measure => simp only [intOf]; omega
      case rel =>
       refine ⟨j + 1, us' ++ [.int .i64 y0, .string y1, .bool y2, .slice yo yn yc, .slice zo zn zc, .int .i64 y5, .slice po pn pc, .slice qo qn qc], .slice a6 (j + 1) d6, by go_num, by omega, fun i h hi => ?_, (rowSet HG6.out 4 _).trans (by simp), HD6.out.store 4 _⟩
       rcases Nat.lt_or_eq_of_le (Nat.le_of_lt_succ hi) with h2 | h2
       . exact HALL.out i h h2
       . subst h2; exact HV.out
   . obtain rfl : j = l.length := by omega
     have HV := Lib.hid (fltB_yes (m := m) (s := s) (k := k) (t := t) (n := n) (r := r) (a := a) (dm := dm) (ds := ds) (by rw [HQ.out]; exact HQ0.out) fun i h => by rw [HQ.out]; exact HALL.out i h h)
     have HFS : Hid (fltS m s (.mk k t n r l a dm ds) = .mk k t n r (l.map (fltS q.1 q.2.1)) a (if k = 4 then q.1 else []) (if k = 4 then q.2.1 else [])) := Lib.hid (by rw [fltS_mk, HQ.out])
     clear c1 c2 c6 c7
     have HFIN : Hid (∀ (W9 : World) (mv sv : Value) (mm ss : List Int), Keeps (fun b => b ≠ w.heap.size + 1 ∧ b ≠ W2.heap.size) wr W9 → Below w.heap.size w W9 → Iz W9 mv mm → Iz W9 sv ss → (mm ≠ [] → Nw W1.heap.size mv) → (ss ≠ [] → Nw W1.heap.size sv) → SLayP (fun b => b < N0 ∨ w.heap.size ≤ b) W9 (.mk k t n r (l.map (fltS q.1 q.2.1)) a mm ss) [.int .i64 k, .string t, .bool n, .slice lo r.length lc, .slice vo l.length vc, .int .i64 a, mv, sv]) := Lib.hid fun W9 mv sv mm ss hkp9 hbw9 hm9 hs9 hnm9 hns9 => by
      have hss := HS2.out
      have hn0 := HN0.out
      have hw1 := HN1.out
      have hown9 := ownsRow_keep HDS.out.own hkp9 fun b hb => by have := (HDS.out.own.lt b hb).1; omega
      have hkq : Keeps (fun b => ((b < N0 ∨ w.heap.size + 2 ≤ b) ∧ b ≠ W2.heap.size) ∧ (Value.slice vo l.length vc).ownBlock ≠ some b) wr W9 := hkp9.mono fun b _ hb => by have := hb.1.1; have := hb.1.2; omega
      have hrow9 := HDS.out.row.move hkq
      rw [List.take_of_length_le (by simp)] at hrow9
      have hkl : Keeps (fun b => b < N0) w W9 := ⟨hbw9.size, fun b hb _ => hbw9.block b hb⟩
      exact .mk HTL.out.1 HTL.out.2 (HRR.out.move HRP.out hkl) (HRP.out.mono HRR.out.lt fun b _ hb => .inl hb) (by rw [List.length_map]; exact RowV.of_own hown9) (fun b _ hb => by have := (HDS.out.own.lt b hb).1; omega) hm9 (fun b h1 h2 => by have := hnm9 (fun e => h1 (by rw [e]; rfl)) b h2; omega) hs9 (fun b h1 h2 => by have := hns9 (fun e => h1 (by rw [e]; rfl)) b h2; omega) (fun i hi => (hrow9.each i hi).mono fun b _ hb => by have := hb.1.1; omega)
     by_cases hk4 : k = 4
     . have hd4 : (k == 4) = true := by rw [hk4]; rfl
       have HK4 := Lib.hid hk4
       clear hk4
       obtain ⟨f0, f1, f2, f3, f4, f5, f6, f7⟩ := rowS8 HBX.out
       have z6 := frozen_heap HBX.out 6
       have z7 := frozen_heap HBX.out 7
       have hbx10 : (((wr.setCell ⟨W2.heap.size, 6, none⟩ (.slice oa ol oc)).setCell ⟨W2.heap.size, 7, none⟩ (.slice ta tl tc)).heap[W2.heap.size]?) = some (.cells #[.int .i64 k, .string t, .bool n, .slice lo r.length lc, .slice vo l.length vc, .int .i64 a, .slice oa ol oc, .slice ta tl tc] 35 (0, 0)) := setS7 (setS6 HBX.out _) _
       have hkp10 : Keeps (fun b => b ≠ W2.heap.size) wr ((wr.setCell ⟨W2.heap.size, 6, none⟩ (.slice oa ol oc)).setCell ⟨W2.heap.size, 7, none⟩ (.slice ta tl tc)) := ((Keeps.refl _ wr).set (by simp) _).set (by simp) _
       have hbel10 : Below W2.heap.size W2 ((wr.setCell ⟨W2.heap.size, 6, none⟩ (.slice oa ol oc)).setCell ⟨W2.heap.size, 7, none⟩ (.slice ta tl tc)) := (HDS.out.bel.setCell (p := ⟨W2.heap.size, 6, none⟩) (Nat.le_refl _) _).setCell (p := ⟨W2.heap.size, 7, none⟩) (Nat.le_refl _) _
       go_upto_region 15 with fail
       generalize (wr.setCell ⟨W2.heap.size, 6, none⟩ (.slice oa ol oc)).setCell ⟨W2.heap.size, 7, none⟩ (.slice ta tl tc) = WW at *
       have HBX10 := Lib.hid hbx10
       have HK10 := Lib.hid hkp10
       have HBE10 := Lib.hid hbel10
       have hss := HS2.out
       have HRS := Lib.hid ((hbel10.block (w.heap.size + 1) (by omega)).trans HZ2.out)
       have HBW : Hid (Below w.heap.size w WW) := Lib.hid (HB2.out.trans (hbel10.mono (by omega)))
       clear f0 f1 f2 f3 f4 f5 f6 f7 z6 z7 hbx10 hkp10 hbel10 hss c0 c3 c4 c5
       obtain ⟨e0, e1, e2, e3, e4, e5, e6, e7⟩ := rowS8 HBX10.out
       have hz := HRS.out
       have q0 := frozen_heap hz 0
       have q1 := frozen_heap hz 1
       have q2 := frozen_heap hz 2
       have q3 := frozen_heap hz 3
       have q4 := frozen_heap hz 4
       have q5 := frozen_heap hz 5
       have q6 := frozen_heap hz 6
       have q7 := frozen_heap hz 7
       obtain ⟨d0, d1, d2, d3, d4, d5, d6, d7⟩ := rowS8 hz
       have hrow := fillS hz (.int .i64 k) (.string t) (.bool n) (.slice lo r.length lc) (.slice vo l.length vc) (.int .i64 a) (.slice oa ol oc) (.slice ta tl tc)
       have hkp := keepS8 (fun b => b ≠ w.heap.size + 1) WW (w.heap.size + 1) (by simp) (.int .i64 k) (.string t) (.bool n) (.slice lo r.length lc) (.slice vo l.length vc) (.int .i64 a) (.slice oa ol oc) (.slice ta tl tc)
       have hbf := belowS8 HBW.out (show w.heap.size ≤ w.heap.size + 1 by omega) (.int .i64 k) (.string t) (.bool n) (.slice lo r.length lc) (.slice vo l.length vc) (.int .i64 a) (.slice oa ol oc) (.slice ta tl tc)
       have HF := Lib.hid (And.intro hrow (And.intro hkp hbf))
       clear hrow hkp hbf hz
       go_wp2_with fail
       clear d0 d1 d2 d3 d4 d5 d6 d7 q0 q1 q2 q3 q4 q5 q6 q7
       generalize World.setCell _ ⟨w.heap.size + 1, 7, none⟩ (.slice ta tl tc) = W9 at *
       obtain ⟨g0, g1, g2, g3, g4, g5, g6, g7⟩ := rowS8 HF.out.1
       clear e0 e1 e2 e3 e4 e5 e6 e7
       have hs1 := HS1.out
       have hss := HS2.out
       have hres := HFIN.out W9 (.slice oa ol oc) (.slice ta tl tc) q.1 q.2.1 ((HK10.out.mono fun b _ hb => hb.2).trans (HF.out.2.1.mono fun b _ hb => hb.1)) HF.out.2.2
        (RowV.move (P := fun b => W1.heap.size ≤ b) (HJ.out.1.below HBE10.out) (fun b _ h => HJ.out.2.2.1 b h) (HF.out.2.1.mono fun b _ hb => by omega)) (RowV.move (P := fun b => W1.heap.size ≤ b) (HJ.out.2.1.below HBE10.out) (fun b _ h => HJ.out.2.2.2 b h) (HF.out.2.1.mono fun b _ hb => by omega)) (fun _ => HJ.out.2.2.1) (fun _ => HJ.out.2.2.2)
       have HRES := Lib.hid hres
       clear hres hs1 hss
       refine bodyPost_ret (v := .tuple #[.agg #[.int .i64 k, .string t, .bool n, .slice lo r.length lc, .slice vo l.length vc, .int .i64 a, .slice oa ol oc, .slice ta tl tc], .bool true]) (by simp [results, Tryz.results71, go_sem, g0, g1, g2, g3, g4, g5, g6, g7]) rfl ?_
       unfold FlPost
       rw [HV.out, HFS.out, if_pos HK4.out, if_pos HK4.out]
       exact ⟨⟨_, _, _, _, _, _, _, _, _, _, _, _, _, _, _, _, rfl, fun _ => HRES.out⟩, HF.out.2.2⟩
     . have hd4 : (k == 4) = false := by rw [beq_eq_false_iff_ne]; exact hk4
       have HK4 := Lib.hid hk4
       clear hk4
       obtain ⟨e0, e1, e2, e3, e4, e5, e6, e7⟩ := rowS8 HBX.out
       obtain ⟨WW, hww⟩ : ∃ WW, WW = wr := ⟨_, rfl⟩
       rw [← hww] at HBX HDS HRS HXR HBW HFIN c0 c3 c4 c5 e0 e1 e2 e3 e4 e5 e6 e7 ⊢
       clear hww
       have hz := HRS.out
       have q0 := frozen_heap hz 0
       have q1 := frozen_heap hz 1
       have q2 := frozen_heap hz 2
       have q3 := frozen_heap hz 3
       have q4 := frozen_heap hz 4
       have q5 := frozen_heap hz 5
       have q6 := frozen_heap hz 6
       have q7 := frozen_heap hz 7
       obtain ⟨d0, d1, d2, d3, d4, d5, d6, d7⟩ := rowS8 hz
       have hrow := fillS hz (.int .i64 k) (.string t) (.bool n) (.slice lo r.length lc) (.slice vo l.length vc) (.int .i64 a) (.slice none 0 0) (.slice none 0 0)
       have hkp := keepS8 (fun b => b ≠ w.heap.size + 1) WW (w.heap.size + 1) (by simp) (.int .i64 k) (.string t) (.bool n) (.slice lo r.length lc) (.slice vo l.length vc) (.int .i64 a) (.slice none 0 0) (.slice none 0 0)
       have hbf := belowS8 HBW.out (show w.heap.size ≤ w.heap.size + 1 by omega) (.int .i64 k) (.string t) (.bool n) (.slice lo r.length lc) (.slice vo l.length vc) (.int .i64 a) (.slice none 0 0) (.slice none 0 0)
       have HF := Lib.hid (And.intro hrow (And.intro hkp hbf))
       clear hrow hkp hbf hz
       go_wp2_with fail
       clear d0 d1 d2 d3 d4 d5 d6 d7 q0 q1 q2 q3 q4 q5 q6 q7
       generalize World.setCell _ ⟨w.heap.size + 1, 7, none⟩ (.slice none 0 0) = W9 at *
       obtain ⟨g0, g1, g2, g3, g4, g5, g6, g7⟩ := rowS8 HF.out.1
       clear e0 e1 e2 e3 e4 e5 e6 e7
       have HRES := Lib.hid (HFIN.out W9 (.slice none 0 0) (.slice none 0 0) [] [] (HF.out.2.1.mono fun b _ hb => hb.1) HF.out.2.2 (Iz.nil _) (Iz.nil _) (fun h => (h rfl).elim) (fun h => (h rfl).elim))
       refine bodyPost_ret (v := .tuple #[.agg #[.int .i64 k, .string t, .bool n, .slice lo r.length lc, .slice vo l.length vc, .int .i64 a, .slice none 0 0, .slice none 0 0], .bool true]) (by simp [results, Tryz.results71, go_sem, g0, g1, g2, g3, g4, g5, g6, g7]) rfl ?_
       unfold FlPost
       rw [HV.out, HFS.out, if_neg HK4.out, if_neg HK4.out]
       exact ⟨⟨_, _, _, _, _, _, _, _, _, _, _, _, _, _, _, _, rfl, fun _ => HRES.out⟩, HF.out.2.2⟩
end Go.Proofs.YtbfcbicbeagjkaaGreatDoor
