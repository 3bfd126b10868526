/- stx.Push, Open, Flat. -/
import Derived.Test.YtbfcbicbeagjkaaDoorSxOpn
import Derived.Test.YtbfcbicbeagjkaaDoorSxStr
namespace Go.Proofs.YtbfcbicbeagjkaaDoor
open Go.RowKit

/-- No piece. -/
def zeroS : Sx := .mk 0 ⟨#[]⟩ false [] [] 0 [] []
def zeroU : List Value := [.int .i64 0, .string ⟨#[]⟩, .bool false, .slice none 0 0, .slice none 0 0, .int .i64 0, .slice none 0 0, .slice none 0 0]
theorem sown_zero (S : Nat → Prop) (w : World) : SOwn w S zeroS zeroU :=
  .mk (Fc := fun _ _ => False) (by decide) (fun _ h => by cases h) (World.ownsRow_nil _ _ _ _) (World.ownsRow_nil _ _ _ _) (World.ownsRow_nil _ _ _ _) (World.ownsRow_nil _ _ _ _) (fun _ h => by cases h) (fun _ h => by cases h) (fun _ h => by cases h) (fun _ h => by cases h) (fun _ _ h => h.elim) (fun _ _ _ _ h => h.elim) (fun i hi => by cases hi)
noncomputable def pshE (m s : List Int) (D : Sx) : Int := if sndX D = true then (if (wjA m s D.m D.s).2.2 = 0 then (if jnsB [] [] (pshS m s D) = true then 0 else 6) else (wjA m s D.m D.s).2.2) else 2
noncomputable def pshR (m s : List Int) (D : Sx) : Sx := if pshE m s D = 0 then pshS m s D else zeroS
noncomputable def sndE (D : Sx) : Int := if sndX D = true then 0 else 2
noncomputable def opnR (D : Sx) : Sx := if sndX D = true then opnS D else zeroS
noncomputable def fltR (D : Sx) : Sx := if sndX D = true then fltS [] [] D else zeroS
/-- A piece that is answered, and an error. -/
def ResP (err : Int) (E : Sx) (w : World) (e : Ending) (w' : World) : Prop := ∃ us, e = .returned (.tuple #[.agg us.toArray, .int .i64 err]) ∧ SOwn w' (fun b => w.heap.size ≤ b ∧ b < w'.heap.size) E us ∧ Below w.heap.size w w'
theorem pshE_no {m s : List Int} {D : Sx} (h : sndX D = false) : pshE m s D = 2 := by unfold pshE; rw [if_neg (by rw [h]; decide)]
theorem pshE_err {m s : List Int} {D : Sx} (h : sndX D = true) (h2 : (wjA m s D.m D.s).2.2 ≠ 0) : pshE m s D = (wjA m s D.m D.s).2.2 := by unfold pshE; rw [if_pos h, if_neg h2]
theorem pshE_large {m s : List Int} {D : Sx} (h : sndX D = true) (h2 : (wjA m s D.m D.s).2.2 = 0) (h3 : jnsB [] [] (pshS m s D) = false) : pshE m s D = 6 := by unfold pshE; rw [if_pos h, if_pos h2, if_neg (by rw [h3]; decide)]
theorem pshE_ok {m s : List Int} {D : Sx} (h : sndX D = true) (h2 : (wjA m s D.m D.s).2.2 = 0) (h3 : jnsB [] [] (pshS m s D) = true) : pshE m s D = 0 := by unfold pshE; rw [if_pos h, if_pos h2, if_pos h3]
theorem pshR_no {m s : List Int} {D : Sx} (h : pshE m s D ≠ 0) : pshR m s D = zeroS := if_neg h
theorem pshR_ok {m s : List Int} {D : Sx} (h : pshE m s D = 0) : pshR m s D = pshS m s D := if_pos h
theorem arr8 {cs : Array Value} {us : List Value} (hz : cs.size = 8) (h : (cs.toList.drop 0).take 8 = us) : cs = us.toArray := by
  rw [List.drop_zero, List.take_of_length_le (by rw [Array.length_toList]; omega)] at h
  rw [← h]
set_option maxRecDepth 100000 in
set_option maxHeartbeats 8000000 in
/-- stx.Flat. -/
theorem flat_any (D : Sx) (us : List Value) (w : World) (hd : SLay w D us) (hsm : SmS 1100000 D) (ht : Tabs w) :
    Calls Tryd.prog 9 #[.agg us.toArray] w (ResP (sndE D) (fltR D) w) := by
  have HD := Lib.hid hd
  have HSM := Lib.hid hsm
  have HT := Lib.hid ht
  obtain ⟨kx, tx, nx, xo, xn, xc, yo, yn, yc, ax, po, pn, pc, qo, qn, qc, rfl⟩ := sx_shapes hd
  clear hd hsm ht
  obtain ⟨er, HER⟩ : ∃ x, Hid (sndE D = x) := ⟨_, Lib.hid rfl⟩
  obtain ⟨E, HRE⟩ : ∃ x, Hid (fltR D = x) := ⟨_, Lib.hid rfl⟩
  rw [HER.out, HRE.out]
  have hb1 := below2 w (.cells #[.int .i64 kx, .string tx, .bool nx, .slice xo xn xc, .slice yo yn yc, .int .i64 ax, .slice po pn pc, .slice qo qn qc] 28) (.cells #[.int .i64 0, .string ⟨#[]⟩, .bool false, .slice none 0 0, .slice none 0 0, .int .i64 0, .slice none 0 0, .slice none 0 0] 28)
  have hn1 := @newsd2 w (.cells #[.int .i64 kx, .string tx, .bool nx, .slice xo xn xc, .slice yo yn yc, .int .i64 ax, .slice po pn pc, .slice qo qn qc] 28) (.cells #[.int .i64 0, .string ⟨#[]⟩, .bool false, .slice none 0 0, .slice none 0 0, .int .i64 0, .slice none 0 0, .slice none 0 0] 28)
  show Calls Tryd.prog 9 #[.agg #[.int .i64 kx, .string tx, .bool nx, .slice xo xn xc, .slice yo yn yc, .int .i64 ax, .slice po pn pc, .slice qo qn qc]] w _
  go_enter Tryd.func9, Tryd.ntmps9
  go_upto_region 1 with fail
  generalize (w.alloc (.cells #[.int .i64 kx, .string tx, .bool nx, .slice xo xn xc, .slice yo yn yc, .int .i64 ax, .slice po pn pc, .slice qo qn qc] 28)).alloc (.cells #[.int .i64 0, .string ⟨#[]⟩, .bool false, .slice none 0 0, .slice none 0 0, .int .i64 0, .slice none 0 0, .slice none 0 0] 28) = w1 at *
  have HB1 := Lib.hid hb1
  have HX1 := Lib.hid hn1.1
  have HZ1 := Lib.hid hn1.2
  clear hb1 hn1
  obtain ⟨c0, c1, c2, c3, c4, c5, c6, c7⟩ := rowS8 HX1.out
  go_wp2_with fail
  refine (xsound_any D _ w1 (HD.out.keep HB1.out) HSM.out (HT.out.below HB1.out (Nat.le_refl _))).mono ?_
  rintro e w2 ⟨rfl, hb2⟩
  have HB2 := Lib.hid (HB1.out.trans (hb2.mono HB1.out.size))
  have HX2 := Lib.hid ((hb2.block _ (Array.getElem?_eq_some_iff.1 HX1.out).1).trans HX1.out)
  have HZ2 := Lib.hid ((hb2.block _ (Array.getElem?_eq_some_iff.1 HZ1.out).1).trans HZ1.out)
  clear hb2 HB1 HX1 HZ1 c0 c1 c2 c3 c4 c5 c6 c7
  cases hs : sndX D with
  | false =>
    obtain rfl : er = 2 := HER.out.symm.trans (by unfold sndE; rw [if_neg (by rw [hs]; decide)])
    obtain rfl : E = zeroS := HRE.out.symm.trans (by unfold fltR; rw [if_neg (by rw [hs]; decide)])
    clear hs
    have hz := HZ2.out
    obtain ⟨d0, d1, d2, d3, d4, d5, d6, d7⟩ := rowS8 hz
    have z0 := frozen_heap hz 0
    have z1 := frozen_heap hz 1
    have z2 := frozen_heap hz 2
    have z3 := frozen_heap hz 3
    have z4 := frozen_heap hz 4
    have z5 := frozen_heap hz 5
    have z6 := frozen_heap hz 6
    have z7 := frozen_heap hz 7
    have hrow := put8w_row hz (.int .i64 0) (.string ⟨#[]⟩) (.bool false) (.slice none 0 0) (.slice none 0 0) (.int .i64 0) (.slice none 0 0) (.slice none 0 0)
    have hbf := put8w_below HB2.out (show w.heap.size ≤ w.heap.size + 1 by omega) (.int .i64 0) (.string ⟨#[]⟩) (.bool false) (.slice none 0 0) (.slice none 0 0) (.int .i64 0) (.slice none 0 0) (.slice none 0 0)
    have HF9 := Lib.hid (And.intro hrow hbf)
    clear hrow hbf hz
    go_wp2_with fail
    clear d0 d1 d2 d3 d4 d5 d6 d7 z0 z1 z2 z3 z4 z5 z6 z7
    unfold put8w at HF9
    generalize World.setCell _ ⟨w.heap.size + 1, 7, none⟩ (.slice none 0 0) = W9 at *
    obtain ⟨g0, g1, g2, g3, g4, g5, g6, g7⟩ := rowS8 HF9.out.1
    refine bodyPost_ret (v := .tuple #[.agg #[.int .i64 0, .string ⟨#[]⟩, .bool false, .slice none 0 0, .slice none 0 0, .int .i64 0, .slice none 0 0, .slice none 0 0], .int .i64 2]) (by simp [results, Tryd.results9, go_sem, g0, g1, g2, g3, g4, g5, g6, g7]) rfl ?_

    exact ⟨zeroU, rfl, sown_zero _ _, HF9.out.2⟩
  | true =>
    obtain rfl : er = 0 := HER.out.symm.trans (by unfold sndE; rw [if_pos hs])
    obtain rfl : E = fltS [] [] D := HRE.out.symm.trans (by unfold fltR; rw [if_pos hs])
    clear hs HER HRE
    obtain ⟨c0, c1, c2, c3, c4, c5, c6, c7⟩ := rowS8 HX2.out
    go_wp2_with fail
    refine (copied_any D.sz D (Nat.le_refl _) HSM.out _ w2 (HD.out.keep HB2.out)).mono ?_
    rintro e w3 ⟨us3, rfl, hso3, hb3⟩
    obtain ⟨ka, ta, na, xoa, xna, xca, yoa, yna, yca, aa, poa, pna, pca, qoa, qna, qca, rfl⟩ := sx_shapes hso3.lay
    have HB3 := Lib.hid (HB2.out.trans (hb3.mono HB2.out.size))
    have hx3 := (hb3.block _ (Array.getElem?_eq_some_iff.1 HX2.out).1).trans HX2.out
    have HZ3 := Lib.hid ((hb3.block _ (Array.getElem?_eq_some_iff.1 HZ2.out).1).trans HZ2.out)
    have HSO := Lib.hid hso3
    have HLE : Hid (w.heap.size + 2 ≤ w2.heap.size) := Lib.hid (Array.getElem?_eq_some_iff.1 HZ2.out).1
    have hsz23 := hb3.size
    clear hb3 hso3 c0 c1 c2 c3 c4 c5 c6 c7
    obtain ⟨d0, d1, d2, d3, d4, d5, d6, d7⟩ := rowS8 hx3
    have z0 := frozen_heap hx3 0
    have z1 := frozen_heap hx3 1
    have z2 := frozen_heap hx3 2
    have z3 := frozen_heap hx3 3
    have z4 := frozen_heap hx3 4
    have z5 := frozen_heap hx3 5
    have z6 := frozen_heap hx3 6
    have z7 := frozen_heap hx3 7
    have hrow := put8w_row hx3 (.int .i64 ka) (.string ta) (.bool na) (.slice xoa xna xca) (.slice yoa yna yca) (.int .i64 aa) (.slice poa pna pca) (.slice qoa qna qca)
    have hkf := put8w_keep (fun b => b ≠ w.heap.size) w3 w.heap.size (by simp) (.int .i64 ka) (.string ta) (.bool na) (.slice xoa xna xca) (.slice yoa yna yca) (.int .i64 aa) (.slice poa pna pca) (.slice qoa qna qca)
    have hbf := put8w_below HB3.out (Nat.le_refl w.heap.size) (.int .i64 ka) (.string ta) (.bool na) (.slice xoa xna xca) (.slice yoa yna yca) (.int .i64 aa) (.slice poa pna pca) (.slice qoa qna qca)
    have HF4 := Lib.hid (And.intro hrow (And.intro hkf hbf))
    clear hrow hkf hbf hx3
    go_upto_region 4 with fail
    clear d0 d1 d2 d3 d4 d5 d6 d7 z0 z1 z2 z3 z4 z5 z6 z7
    unfold put8w at HF4
    generalize World.setCell _ ⟨w.heap.size, 7, none⟩ (.slice qoa qna qca) = w4 at *
    have HZ4 := Lib.hid ((HF4.out.2.1.2 _ (Array.getElem?_eq_some_iff.1 HZ3.out).1 (by omega)).trans HZ3.out)
    have HS4 := Lib.hid (HSO.out.move (HF4.out.2.1.mono fun b _ hb => by have := HLE.out; omega))
    have HX4 := Lib.hid HF4.out.1
    have HB4 := Lib.hid HF4.out.2.2
    have HW4 : Hid (w3.heap.size ≤ w4.heap.size) := Lib.hid HF4.out.2.1.1
    have HSZ34 : Hid (w2.heap.size ≤ w4.heap.size) := Lib.hid (Nat.le_trans hsz23 HF4.out.2.1.1)
    clear hsz23
    clear HSO HF4 HZ3 HX2 HZ2
    obtain ⟨c0, c1, c2, c3, c4, c5, c6, c7⟩ := rowS8 HX4.out
    go_wp2_with fail
    refine (flatten_any D.sz D (Nat.le_refl _) _ (fun b => w2.heap.size ≤ b ∧ b < w3.heap.size) w.heap.size 0 _ (.agg #[.slice none 0 0, .slice none 0 0]) [] [] w4 HS4.out (fun b hb => by have := HW4.out; omega) (by have := HLE.out; omega) HX4.out (by simp) rfl ⟨_, _, rfl, Iz.nil _, Iz.nil _⟩).mono ?_
    rintro e w5 ⟨rfl, ⟨cs5, us5, S5, hx5, hz5, ho5, hu5, hs5, hS5⟩, hk5, hb5⟩
    have hc5 := arr8 (hz5.trans rfl) hu5
    obtain ⟨kb, tb, nb, xob, xnb, xcb, yob, ynb, ycb, ab, pob, pnb, pcb, qob, qnb, qcb, hsh⟩ := sx_shapes hs5.lay
    subst hsh
    rw [hc5] at hx5
    have HX5 := Lib.hid hx5
    have HS5 := Lib.hid hs5
    have hle := HLE.out
    have hw4 := HW4.out
    have hz4 := HB4.out.size
    have HI5 : Hid (∀ b, S5 b → w2.heap.size ≤ b ∧ b < w5.heap.size) := Lib.hid fun b hb => by
      obtain ⟨h1, h2⟩ := hS5 b hb
      rcases h1 with h1 | h1
      · exact ⟨h1.1, h2⟩
      · exact ⟨by have := HSZ34.out; omega, h2⟩
    have HZ5 := Lib.hid ((hk5.2 _ (Array.getElem?_eq_some_iff.1 HZ4.out).1 ⟨fun h => by omega, by omega⟩).trans HZ4.out)
    have HB5 := Lib.hid (HB4.out.trans (hb5 w.heap.size (Nat.le_refl _) HB4.out.size fun b hb => by omega))
    clear hx5 hz5 ho5 hu5 hs5 hS5 hk5 hb5 hc5 hle hw4 hz4 c0 c1 c2 c3 c4 c5 c6 c7
    obtain ⟨e0, e1, e2, e3, e4, e5, e6, e7⟩ := rowS8 HX5.out
    have hz := HZ5.out
    obtain ⟨d0, d1, d2, d3, d4, d5, d6, d7⟩ := rowS8 hz
    have z0 := frozen_heap hz 0
    have z1 := frozen_heap hz 1
    have z2 := frozen_heap hz 2
    have z3 := frozen_heap hz 3
    have z4 := frozen_heap hz 4
    have z5 := frozen_heap hz 5
    have z6 := frozen_heap hz 6
    have z7 := frozen_heap hz 7
    have hrow := put8w_row hz (.int .i64 kb) (.string tb) (.bool nb) (.slice xob xnb xcb) (.slice yob ynb ycb) (.int .i64 ab) (.slice pob pnb pcb) (.slice qob qnb qcb)
    have hkf := put8w_keep (fun b => b ≠ w.heap.size + 1) w5 (w.heap.size + 1) (by simp) (.int .i64 kb) (.string tb) (.bool nb) (.slice xob xnb xcb) (.slice yob ynb ycb) (.int .i64 ab) (.slice pob pnb pcb) (.slice qob qnb qcb)
    have hbf := put8w_below HB5.out (show w.heap.size ≤ w.heap.size + 1 by omega) (.int .i64 kb) (.string tb) (.bool nb) (.slice xob xnb xcb) (.slice yob ynb ycb) (.int .i64 ab) (.slice pob pnb pcb) (.slice qob qnb qcb)
    have HF9 := Lib.hid (And.intro hrow (And.intro hkf hbf))
    clear hrow hkf hbf hz
    go_wp2_with fail
    clear e0 e1 e2 e3 e4 e5 e6 e7 d0 d1 d2 d3 d4 d5 d6 d7 z0 z1 z2 z3 z4 z5 z6 z7
    unfold put8w at HF9
    generalize World.setCell _ ⟨w.heap.size + 1, 7, none⟩ (.slice qob qnb qcb) = W9 at *
    obtain ⟨g0, g1, g2, g3, g4, g5, g6, g7⟩ := rowS8 HF9.out.1
    refine bodyPost_ret (v := .tuple #[.agg #[.int .i64 kb, .string tb, .bool nb, .slice xob xnb xcb, .slice yob ynb ycb, .int .i64 ab, .slice pob pnb pcb, .slice qob qnb qcb], .int .i64 0]) (by simp [results, Tryd.results9, go_sem, g0, g1, g2, g3, g4, g5, g6, g7]) rfl ?_

    have hle := HLE.out
    have hb4 := HB4.out.size
    have h5 := HF9.out.2.1.1
    exact ⟨_, rfl, (HS5.out.move (HF9.out.2.1.mono fun b _ hb e => by have := HI5.out b hb; omega)).mono fun b hb => by have := HI5.out b hb; omega, HF9.out.2.2⟩

set_option maxRecDepth 100000 in
set_option maxHeartbeats 8000000 in
/-- stx.Open. -/
theorem open1_any (D : Sx) (us : List Value) (w : World) (hd : SLay w D us) (hsm : SmS 1100000 D) (ht : Tabs w) :
    Calls Tryd.prog 8 #[.agg us.toArray] w (ResP (sndE D) (opnR D) w) := by
  have HD := Lib.hid hd
  have HSM := Lib.hid hsm
  have HT := Lib.hid ht
  obtain ⟨kx, tx, nx, xo, xn, xc, yo, yn, yc, ax, po, pn, pc, qo, qn, qc, rfl⟩ := sx_shapes hd
  clear hd hsm ht
  obtain ⟨er, HER⟩ : ∃ x, Hid (sndE D = x) := ⟨_, Lib.hid rfl⟩
  obtain ⟨E, HRE⟩ : ∃ x, Hid (opnR D = x) := ⟨_, Lib.hid rfl⟩
  rw [HER.out, HRE.out]
  have hb1 := below2 w (.cells #[.int .i64 kx, .string tx, .bool nx, .slice xo xn xc, .slice yo yn yc, .int .i64 ax, .slice po pn pc, .slice qo qn qc] 28) (.cells #[.int .i64 0, .string ⟨#[]⟩, .bool false, .slice none 0 0, .slice none 0 0, .int .i64 0, .slice none 0 0, .slice none 0 0] 28)
  have hn1 := @newsd2 w (.cells #[.int .i64 kx, .string tx, .bool nx, .slice xo xn xc, .slice yo yn yc, .int .i64 ax, .slice po pn pc, .slice qo qn qc] 28) (.cells #[.int .i64 0, .string ⟨#[]⟩, .bool false, .slice none 0 0, .slice none 0 0, .int .i64 0, .slice none 0 0, .slice none 0 0] 28)
  show Calls Tryd.prog 8 #[.agg #[.int .i64 kx, .string tx, .bool nx, .slice xo xn xc, .slice yo yn yc, .int .i64 ax, .slice po pn pc, .slice qo qn qc]] w _
  go_enter Tryd.func8, Tryd.ntmps8
  go_upto_region 1 with fail
  generalize (w.alloc (.cells #[.int .i64 kx, .string tx, .bool nx, .slice xo xn xc, .slice yo yn yc, .int .i64 ax, .slice po pn pc, .slice qo qn qc] 28)).alloc (.cells #[.int .i64 0, .string ⟨#[]⟩, .bool false, .slice none 0 0, .slice none 0 0, .int .i64 0, .slice none 0 0, .slice none 0 0] 28) = w1 at *
  have HB1 := Lib.hid hb1
  have HX1 := Lib.hid hn1.1
  have HZ1 := Lib.hid hn1.2
  clear hb1 hn1
  obtain ⟨c0, c1, c2, c3, c4, c5, c6, c7⟩ := rowS8 HX1.out
  go_wp2_with fail
  refine (xsound_any D _ w1 (HD.out.keep HB1.out) HSM.out (HT.out.below HB1.out (Nat.le_refl _))).mono ?_
  rintro e w2 ⟨rfl, hb2⟩
  have HB2 := Lib.hid (HB1.out.trans (hb2.mono HB1.out.size))
  have HX2 := Lib.hid ((hb2.block _ (Array.getElem?_eq_some_iff.1 HX1.out).1).trans HX1.out)
  have HZ2 := Lib.hid ((hb2.block _ (Array.getElem?_eq_some_iff.1 HZ1.out).1).trans HZ1.out)
  clear hb2 HB1 HX1 HZ1 c0 c1 c2 c3 c4 c5 c6 c7
  cases hs : sndX D with
  | false =>
    obtain rfl : er = 2 := HER.out.symm.trans (by unfold sndE; rw [if_neg (by rw [hs]; decide)])
    obtain rfl : E = zeroS := HRE.out.symm.trans (by unfold opnR; rw [if_neg (by rw [hs]; decide)])
    clear hs
    have hz := HZ2.out
    obtain ⟨d0, d1, d2, d3, d4, d5, d6, d7⟩ := rowS8 hz
    have z0 := frozen_heap hz 0
    have z1 := frozen_heap hz 1
    have z2 := frozen_heap hz 2
    have z3 := frozen_heap hz 3
    have z4 := frozen_heap hz 4
    have z5 := frozen_heap hz 5
    have z6 := frozen_heap hz 6
    have z7 := frozen_heap hz 7
    have hrow := put8w_row hz (.int .i64 0) (.string ⟨#[]⟩) (.bool false) (.slice none 0 0) (.slice none 0 0) (.int .i64 0) (.slice none 0 0) (.slice none 0 0)
    have hbf := put8w_below HB2.out (show w.heap.size ≤ w.heap.size + 1 by omega) (.int .i64 0) (.string ⟨#[]⟩) (.bool false) (.slice none 0 0) (.slice none 0 0) (.int .i64 0) (.slice none 0 0) (.slice none 0 0)
    have HF9 := Lib.hid (And.intro hrow hbf)
    clear hrow hbf hz
    go_wp2_with fail
    clear d0 d1 d2 d3 d4 d5 d6 d7 z0 z1 z2 z3 z4 z5 z6 z7
    unfold put8w at HF9
    generalize World.setCell _ ⟨w.heap.size + 1, 7, none⟩ (.slice none 0 0) = W9 at *
    obtain ⟨g0, g1, g2, g3, g4, g5, g6, g7⟩ := rowS8 HF9.out.1
    refine bodyPost_ret (v := .tuple #[.agg #[.int .i64 0, .string ⟨#[]⟩, .bool false, .slice none 0 0, .slice none 0 0, .int .i64 0, .slice none 0 0, .slice none 0 0], .int .i64 2]) (by simp [results, Tryd.results8, go_sem, g0, g1, g2, g3, g4, g5, g6, g7]) rfl ?_

    exact ⟨zeroU, rfl, sown_zero _ _, HF9.out.2⟩
  | true =>
    obtain rfl : er = 0 := HER.out.symm.trans (by unfold sndE; rw [if_pos hs])
    have HEO : Hid (opnS D = E) := Lib.hid ((by unfold opnR; rw [if_pos hs] : opnR D = opnS D).symm.trans HRE.out)
    clear hs HER HRE
    obtain ⟨c0, c1, c2, c3, c4, c5, c6, c7⟩ := rowS8 HX2.out
    go_wp2_with fail
    refine (copied_any D.sz D (Nat.le_refl _) HSM.out _ w2 (HD.out.keep HB2.out)).mono ?_
    rintro e w3 ⟨us3, rfl, hso3, hb3⟩
    obtain ⟨ka, ta, na, xoa, xna, xca, yoa, yna, yca, aa, poa, pna, pca, qoa, qna, qca, rfl⟩ := sx_shapes hso3.lay
    have HB3 := Lib.hid (HB2.out.trans (hb3.mono HB2.out.size))
    have hx3 := (hb3.block _ (Array.getElem?_eq_some_iff.1 HX2.out).1).trans HX2.out
    have HZ3 := Lib.hid ((hb3.block _ (Array.getElem?_eq_some_iff.1 HZ2.out).1).trans HZ2.out)
    have HSO := Lib.hid hso3
    have HLE : Hid (w.heap.size + 2 ≤ w2.heap.size) := Lib.hid (Array.getElem?_eq_some_iff.1 HZ2.out).1
    have hsz23 := hb3.size
    clear hb3 hso3 c0 c1 c2 c3 c4 c5 c6 c7
    obtain ⟨d0, d1, d2, d3, d4, d5, d6, d7⟩ := rowS8 hx3
    have z0 := frozen_heap hx3 0
    have z1 := frozen_heap hx3 1
    have z2 := frozen_heap hx3 2
    have z3 := frozen_heap hx3 3
    have z4 := frozen_heap hx3 4
    have z5 := frozen_heap hx3 5
    have z6 := frozen_heap hx3 6
    have z7 := frozen_heap hx3 7
    have hrow := put8w_row hx3 (.int .i64 ka) (.string ta) (.bool na) (.slice xoa xna xca) (.slice yoa yna yca) (.int .i64 aa) (.slice poa pna pca) (.slice qoa qna qca)
    have hkf := put8w_keep (fun b => b ≠ w.heap.size) w3 w.heap.size (by simp) (.int .i64 ka) (.string ta) (.bool na) (.slice xoa xna xca) (.slice yoa yna yca) (.int .i64 aa) (.slice poa pna pca) (.slice qoa qna qca)
    have hbf := put8w_below HB3.out (Nat.le_refl w.heap.size) (.int .i64 ka) (.string ta) (.bool na) (.slice xoa xna xca) (.slice yoa yna yca) (.int .i64 aa) (.slice poa pna pca) (.slice qoa qna qca)
    have HF4 := Lib.hid (And.intro hrow (And.intro hkf hbf))
    clear hrow hkf hbf hx3
    go_upto_region 4 with fail
    clear d0 d1 d2 d3 d4 d5 d6 d7 z0 z1 z2 z3 z4 z5 z6 z7
    unfold put8w at HF4
    generalize World.setCell _ ⟨w.heap.size, 7, none⟩ (.slice qoa qna qca) = w4 at *
    have HZ4 := Lib.hid ((HF4.out.2.1.2 _ (Array.getElem?_eq_some_iff.1 HZ3.out).1 (by omega)).trans HZ3.out)
    have HS4 := Lib.hid (HSO.out.move (HF4.out.2.1.mono fun b _ hb => by have := HLE.out; omega))
    have HX4 := Lib.hid HF4.out.1
    have HB4 := Lib.hid HF4.out.2.2
    have HW4 : Hid (w3.heap.size ≤ w4.heap.size) := Lib.hid HF4.out.2.1.1
    have HSZ34 : Hid (w2.heap.size ≤ w4.heap.size) := Lib.hid (Nat.le_trans hsz23 HF4.out.2.1.1)
    clear hsz23
    clear HSO HF4 HZ3 HX2 HZ2
    obtain ⟨c0, c1, c2, c3, c4, c5, c6, c7⟩ := rowS8 HX4.out
    go_wp2_with fail
    refine (compound_any ka ta na xoa xna xca yoa yna yca aa poa pna pca qoa qna qca w4).mono ?_
    rintro e w5 ⟨rfl, hb5⟩
    have HB5 := Lib.hid (HB4.out.trans (hb5.mono HB4.out.size))
    have HX5 := Lib.hid ((hb5.block _ (Array.getElem?_eq_some_iff.1 HX4.out).1).trans HX4.out)
    have HZ5 := Lib.hid ((hb5.block _ (Array.getElem?_eq_some_iff.1 HZ4.out).1).trans HZ4.out)
    have HS5 := Lib.hid (HS4.out.under hb5)
    have HW5 : Hid (w3.heap.size ≤ w5.heap.size) := Lib.hid (Nat.le_trans HW4.out hb5.size)
    have HZ45 : Hid (w4.heap.size ≤ w5.heap.size) := Lib.hid hb5.size
    have HKD : Hid (D.k = ka) := Lib.hid (by
      obtain ⟨_, _, _, _, _, he, _⟩ := HS4.out.lay.open'
      simp only [List.cons.injEq, Value.int.injEq, true_and] at he
      exact he.1.symm)
    clear hb5 c0 c1 c2 c3 c4 c5 c6 c7
    cases hcp : cpdB ka with
    | false =>
      obtain rfl : E = D := HEO.out.symm.trans (opnS_no (by rw [HKD.out]; unfold cpdB at hcp; simpa using hcp))
      clear hcp
      obtain ⟨e0, e1, e2, e3, e4, e5, e6, e7⟩ := rowS8 HX5.out
      have hz := HZ5.out
      obtain ⟨d0, d1, d2, d3, d4, d5, d6, d7⟩ := rowS8 hz
      have z0 := frozen_heap hz 0
      have z1 := frozen_heap hz 1
      have z2 := frozen_heap hz 2
      have z3 := frozen_heap hz 3
      have z4 := frozen_heap hz 4
      have z5 := frozen_heap hz 5
      have z6 := frozen_heap hz 6
      have z7 := frozen_heap hz 7
      have hrow := put8w_row hz (.int .i64 ka) (.string ta) (.bool na) (.slice xoa xna xca) (.slice yoa yna yca) (.int .i64 aa) (.slice poa pna pca) (.slice qoa qna qca)
      have hkf := put8w_keep (fun b => b ≠ w.heap.size + 1) w5 (w.heap.size + 1) (by simp) (.int .i64 ka) (.string ta) (.bool na) (.slice xoa xna xca) (.slice yoa yna yca) (.int .i64 aa) (.slice poa pna pca) (.slice qoa qna qca)
      have hbf := put8w_below HB5.out (show w.heap.size ≤ w.heap.size + 1 by omega) (.int .i64 ka) (.string ta) (.bool na) (.slice xoa xna xca) (.slice yoa yna yca) (.int .i64 aa) (.slice poa pna pca) (.slice qoa qna qca)
      have HF9 := Lib.hid (And.intro hrow (And.intro hkf hbf))
      clear hrow hkf hbf hz
      go_wp2_with fail
      clear e0 e1 e2 e3 e4 e5 e6 e7 d0 d1 d2 d3 d4 d5 d6 d7 z0 z1 z2 z3 z4 z5 z6 z7
      unfold put8w at HF9
      generalize World.setCell _ ⟨w.heap.size + 1, 7, none⟩ (.slice qoa qna qca) = W9 at *
      obtain ⟨g0, g1, g2, g3, g4, g5, g6, g7⟩ := rowS8 HF9.out.1
      refine bodyPost_ret (v := .tuple #[.agg #[.int .i64 ka, .string ta, .bool na, .slice xoa xna xca, .slice yoa yna yca, .int .i64 aa, .slice poa pna pca, .slice qoa qna qca], .int .i64 0]) (by simp [results, Tryd.results8, go_sem, g0, g1, g2, g3, g4, g5, g6, g7]) rfl ?_

      have hle := HLE.out
      have hb4 := HB4.out.size
      have hw4 := HW4.out
      have hw5 := HW5.out
      have h5 := HF9.out.2.1.1
      exact ⟨_, rfl, (HS5.out.move (HF9.out.2.1.mono fun b _ hb e => by have h1 := hb.1; omega)).mono fun b hb => by have h1 := hb.1; have h2 := hb.2; omega, HF9.out.2.2⟩
    | true =>
      have hk13 : 1 ≤ ka ∧ ka ≤ 3 := by unfold cpdB at hcp; simpa using hcp
      have HEE : Hid (E = .mk D.k D.t D.n D.r (D.l.map (pshS D.m D.s)) D.a [] []) := Lib.hid (HEO.out.symm.trans (by obtain ⟨k, t, n, r, l, a, m, s⟩ := D; exact opnS_yes (show 1 ≤ k ∧ k ≤ 3 by have h : k = ka := HKD.out; omega)))
      clear HZ4 HX4 HS4 HB4 HW4 hcp hk13
      have HZ4 := Lib.hid HZ5.out
      have HB4 := Lib.hid HB5.out
      have HW4 := Lib.hid HW5.out
      have HSZ34 := Lib.hid (Nat.le_trans HSZ34.out HZ45.out)
      go_wp2_with fail
      refine (open_any D.k D.t D.n D.r D.l D.a D.m D.s _ (fun b => w2.heap.size ≤ b ∧ b < w3.heap.size) w.heap.size 0 _ w5 (by have h := HS5.out; cases D; exact h) (fun b hb => by have := HW5.out; omega) (by have := HLE.out; omega) HX5.out (by simp) rfl).mono ?_
      rintro e w6 ⟨rfl, ⟨cs5, us5, S5, hx5, hz5, ho5, hu5, hs5, hS5⟩, hk5, hb5⟩
      have hc5 := arr8 (hz5.trans rfl) hu5
      obtain ⟨kb, tb, nb, xob, xnb, xcb, yob, ynb, ycb, ab, pob, pnb, pcb, qob, qnb, qcb, hsh⟩ := sx_shapes hs5.lay
      subst hsh
      rw [hc5] at hx5
      have HX6 := Lib.hid hx5
      have HS6 := Lib.hid hs5
      have hle := HLE.out
      have hw4 := HW4.out
      have hz4 := HB4.out.size
      have HI5 : Hid (∀ b, S5 b → w2.heap.size ≤ b ∧ b < w6.heap.size) := Lib.hid fun b hb => by
        obtain ⟨h1, h2⟩ := hS5 b hb
        rcases h1 with h1 | h1
        · exact ⟨h1.1, h2⟩
        · exact ⟨by have := HSZ34.out; omega, h2⟩
      have HZ6 := Lib.hid ((hk5.2 _ (Array.getElem?_eq_some_iff.1 HZ4.out).1 ⟨fun h => by omega, by omega⟩).trans HZ4.out)
      have HB6 := Lib.hid (HB4.out.trans (hb5 w.heap.size (Nat.le_refl _) HB4.out.size fun b hb => by omega))
      clear hx5 hz5 ho5 hu5 hs5 hS5 hk5 hb5 hc5 hle hw4 hz4
      obtain ⟨e0, e1, e2, e3, e4, e5, e6, e7⟩ := rowS8 HX6.out
      have hz := HZ6.out
      obtain ⟨d0, d1, d2, d3, d4, d5, d6, d7⟩ := rowS8 hz
      have z0 := frozen_heap hz 0
      have z1 := frozen_heap hz 1
      have z2 := frozen_heap hz 2
      have z3 := frozen_heap hz 3
      have z4 := frozen_heap hz 4
      have z5 := frozen_heap hz 5
      have z6 := frozen_heap hz 6
      have z7 := frozen_heap hz 7
      have hrow := put8w_row hz (.int .i64 kb) (.string tb) (.bool nb) (.slice xob xnb xcb) (.slice yob ynb ycb) (.int .i64 ab) (.slice pob pnb pcb) (.slice qob qnb qcb)
      have hkf := put8w_keep (fun b => b ≠ w.heap.size + 1) w6 (w.heap.size + 1) (by simp) (.int .i64 kb) (.string tb) (.bool nb) (.slice xob xnb xcb) (.slice yob ynb ycb) (.int .i64 ab) (.slice pob pnb pcb) (.slice qob qnb qcb)
      have hbf := put8w_below HB6.out (show w.heap.size ≤ w.heap.size + 1 by omega) (.int .i64 kb) (.string tb) (.bool nb) (.slice xob xnb xcb) (.slice yob ynb ycb) (.int .i64 ab) (.slice pob pnb pcb) (.slice qob qnb qcb)
      have HF9 := Lib.hid (And.intro hrow (And.intro hkf hbf))
      clear hrow hkf hbf hz
      go_wp2_with fail
      clear e0 e1 e2 e3 e4 e5 e6 e7 d0 d1 d2 d3 d4 d5 d6 d7 z0 z1 z2 z3 z4 z5 z6 z7
      unfold put8w at HF9
      generalize World.setCell _ ⟨w.heap.size + 1, 7, none⟩ (.slice qob qnb qcb) = W9 at *
      obtain ⟨g0, g1, g2, g3, g4, g5, g6, g7⟩ := rowS8 HF9.out.1
      refine bodyPost_ret (v := .tuple #[.agg #[.int .i64 kb, .string tb, .bool nb, .slice xob xnb xcb, .slice yob ynb ycb, .int .i64 ab, .slice pob pnb pcb, .slice qob qnb qcb], .int .i64 0]) (by simp [results, Tryd.results8, go_sem, g0, g1, g2, g3, g4, g5, g6, g7]) rfl ?_

      have hle := HLE.out
      have hb4 := HB4.out.size
      have h5 := HF9.out.2.1.1
      rw [HEE.out]
      exact ⟨_, rfl, (HS6.out.move (HF9.out.2.1.mono fun b _ hb e => by have := HI5.out b hb; omega)).mono fun b hb => by have := HI5.out b hb; omega, HF9.out.2.2⟩

set_option maxRecDepth 100000 in
set_option maxHeartbeats 8000000 in
/-- stx.Push. -/
theorem push_any (D : Sx) (us : List Value) (x : Value) (m s : List Int) (w : World) (hd : SLay w D us) (hsm : SmS 1100000 D) (hx : Wr w x m s) (ht : Tabs w) :
    Calls Tryd.prog 7 #[.agg us.toArray, x] w (ResP (pshE m s D) (pshR m s D) w) := by
  have HD := Lib.hid hd
  have HSM := Lib.hid hsm
  have HT := Lib.hid ht
  have HXW := Lib.hid hx
  obtain ⟨kx, tx, nx, xo, xn, xc, yo, yn, yc, ax, po, pn, pc, qo, qn, qc, rfl⟩ := sx_shapes hd
  obtain ⟨wm, ws, rfl, hwm, hws⟩ := hx.cells
  obtain ⟨_, ma, mac, hmv, _, _⟩ := hwm.cases
  obtain ⟨_, sa, sac, hsv, _, _⟩ := hws.cases
  generalize m.length = ml at hmv
  generalize s.length = sl at hsv
  subst hmv hsv
  have HDW : Hid (Wr w (.agg #[.slice po pn pc, .slice qo qn qc]) D.m D.s) := Lib.hid (by
    obtain ⟨lv, av, mv, sv, vs, he, _, _, _, _, hm, hs, _⟩ := hd.open'
    simp only [List.cons.injEq, and_true] at he
    obtain ⟨_, _, _, _, _, _, e6, e7⟩ := he
    rw [e6, e7]
    exact ⟨_, _, rfl, hm, hs⟩)
  clear hd hsm ht hx hwm hws
  obtain ⟨er, HER⟩ : ∃ x, Hid (pshE m s D = x) := ⟨_, Lib.hid rfl⟩
  obtain ⟨E, HRE⟩ : ∃ x, Hid (pshR m s D = x) := ⟨_, Lib.hid rfl⟩
  rw [HER.out, HRE.out]
  have hb1 := below3 w (.cells #[.int .i64 kx, .string tx, .bool nx, .slice xo xn xc, .slice yo yn yc, .int .i64 ax, .slice po pn pc, .slice qo qn qc] 28) (.cells #[.slice ma ml mac, .slice sa sl sac] 30) (.cells #[.int .i64 0, .string ⟨#[]⟩, .bool false, .slice none 0 0, .slice none 0 0, .int .i64 0, .slice none 0 0, .slice none 0 0] 28)
  have hn1 := @newsp3 w (.cells #[.int .i64 kx, .string tx, .bool nx, .slice xo xn xc, .slice yo yn yc, .int .i64 ax, .slice po pn pc, .slice qo qn qc] 28) (.cells #[.slice ma ml mac, .slice sa sl sac] 30) (.cells #[.int .i64 0, .string ⟨#[]⟩, .bool false, .slice none 0 0, .slice none 0 0, .int .i64 0, .slice none 0 0, .slice none 0 0] 28)
  show Calls Tryd.prog 7 #[.agg #[.int .i64 kx, .string tx, .bool nx, .slice xo xn xc, .slice yo yn yc, .int .i64 ax, .slice po pn pc, .slice qo qn qc], .agg #[.slice ma ml mac, .slice sa sl sac]] w _
  go_enter Tryd.func7, Tryd.ntmps7
  go_upto_region 1 with fail
  generalize ((w.alloc (.cells #[.int .i64 kx, .string tx, .bool nx, .slice xo xn xc, .slice yo yn yc, .int .i64 ax, .slice po pn pc, .slice qo qn qc] 28)).alloc (.cells #[.slice ma ml mac, .slice sa sl sac] 30)).alloc (.cells #[.int .i64 0, .string ⟨#[]⟩, .bool false, .slice none 0 0, .slice none 0 0, .int .i64 0, .slice none 0 0, .slice none 0 0] 28) = w1 at *
  have HB1 := Lib.hid hb1
  have HX1 := Lib.hid hn1.1
  have HW1 := Lib.hid hn1.2.1
  have HZ1 := Lib.hid hn1.2.2
  clear hb1 hn1
  obtain ⟨c0, c1, c2, c3, c4, c5, c6, c7⟩ := rowS8 HX1.out
  go_wp2_with fail
  refine (xsound_any D _ w1 (HD.out.keep HB1.out) HSM.out (HT.out.below HB1.out (Nat.le_refl _))).mono ?_
  rintro e w2 ⟨rfl, hb2⟩
  have HB2 := Lib.hid (HB1.out.trans (hb2.mono HB1.out.size))
  have HX2 := Lib.hid ((hb2.block _ (Array.getElem?_eq_some_iff.1 HX1.out).1).trans HX1.out)
  have HW2 := Lib.hid ((hb2.block _ (Array.getElem?_eq_some_iff.1 HW1.out).1).trans HW1.out)
  have HZ2 := Lib.hid ((hb2.block _ (Array.getElem?_eq_some_iff.1 HZ1.out).1).trans HZ1.out)
  clear hb2 HB1 HX1 HW1 HZ1 c0 c1 c2 c3 c4 c5 c6 c7
  cases hs : sndX D with
  | false =>
    obtain rfl : er = 2 := HER.out.symm.trans (pshE_no hs)
    obtain rfl : E = zeroS := HRE.out.symm.trans (pshR_no (by rw [pshE_no hs]; decide))
    clear hs
    have hz := HZ2.out
    obtain ⟨d0, d1, d2, d3, d4, d5, d6, d7⟩ := rowS8 hz
    have z0 := frozen_heap hz 0
    have z1 := frozen_heap hz 1
    have z2 := frozen_heap hz 2
    have z3 := frozen_heap hz 3
    have z4 := frozen_heap hz 4
    have z5 := frozen_heap hz 5
    have z6 := frozen_heap hz 6
    have z7 := frozen_heap hz 7
    have hrow := put8w_row hz (.int .i64 0) (.string ⟨#[]⟩) (.bool false) (.slice none 0 0) (.slice none 0 0) (.int .i64 0) (.slice none 0 0) (.slice none 0 0)
    have hbf := put8w_below HB2.out (show w.heap.size ≤ w.heap.size + 2 by omega) (.int .i64 0) (.string ⟨#[]⟩) (.bool false) (.slice none 0 0) (.slice none 0 0) (.int .i64 0) (.slice none 0 0) (.slice none 0 0)
    have HF9 := Lib.hid (And.intro hrow hbf)
    clear hrow hbf hz
    go_wp2_with fail
    clear d0 d1 d2 d3 d4 d5 d6 d7 z0 z1 z2 z3 z4 z5 z6 z7
    unfold put8w at HF9
    generalize World.setCell _ ⟨w.heap.size + 2, 7, none⟩ (.slice none 0 0) = W9 at *
    obtain ⟨g0, g1, g2, g3, g4, g5, g6, g7⟩ := rowS8 HF9.out.1
    refine bodyPost_ret (v := .tuple #[.agg #[.int .i64 0, .string ⟨#[]⟩, .bool false, .slice none 0 0, .slice none 0 0, .int .i64 0, .slice none 0 0, .slice none 0 0], .int .i64 2]) (by simp [results, Tryd.results7, go_sem, g0, g1, g2, g3, g4, g5, g6, g7]) rfl ?_

    exact ⟨zeroU, rfl, sown_zero _ _, HF9.out.2⟩
  | true =>
    have HSD := Lib.hid hs
    clear hs
    obtain ⟨J, HJ⟩ : ∃ J, Hid (wjA m s D.m D.s = J) := ⟨_, Lib.hid rfl⟩
    have HLT := Lib.hid (And.intro (Array.getElem?_eq_some_iff.1 HX2.out).1 (Array.getElem?_eq_some_iff.1 HW2.out).1)
    go_upto_region 3 with fail
    refine wp_region_late 8 7 5 6 17 (psi [isV (.agg #[.slice ma ml mac, .slice sa sl sac]), isV (.agg #[.int .i64 kx, .string tx, .bool nx, .slice xo xn xc, .slice yo yn yc, .int .i64 ax, .slice po pn pc, .slice qo qn qc]), isV (.agg #[.slice po pn pc, .slice qo qn qc]), isJnO w2.heap.size J, isJnO w2.heap.size J, isWrO w2.heap.size J.1 J.2.1, isV (.int .i64 J.2.2), isBoxW w2.heap.size, nothing, isV (.int .i64 J.2.2)]) (fun W => Below w2.heap.size w2 W) (FillsW) (by kernel_rfl) (Below.refl _ _).drew (psi_mono ?_) (by kernel_rfl) (by kernel_rfl) (by kernel_rfl) ?_ ?_
    · intro pq hp
      simp only [List.mem_cons, List.not_mem_nil, or_false] at hp
      (repeat' rcases hp with rfl | hp) <;> first | exact isV_stays _ | exact nothing_stays | (subst hp; first | exact isV_stays _ | exact nothing_stays) | exact isBoxW_stays _ | exact isJnO_stays _ _ | exact isWrO_stays _ _ _ | (subst hp; exact isBoxW_stays _) | (subst hp; exact isJnO_stays _ _) | (subst hp; exact isWrO_stays _ _ _)
    · refine AllOps.cons ?_ ?_
      · refine OpL.early (by kernel_rfl) (by kernel_rfl) fun ab W hC hB hdep => ?_
        refine .inl ⟨rfl, ?_⟩
        have b0 : ab.tmps.getD 3 undef = .pointer (some ⟨w.heap.size + 1, 0, none⟩) := hB.off 3 (by kernel_rfl)
        obtain ⟨c0, c1, _, _⟩ := rowp2d ((hC.block _ HLT.out.2).trans HW2.out)
        clear hB hdep
        refine goes_value (v := .agg #[.slice ma ml mac, .slice sa sl sac]) ?_ hC rfl
        simp only [execOp, Act.eval, b0]
        go_simp
      refine AllOps.cons ?_ ?_
      · refine OpL.early (by kernel_rfl) (by kernel_rfl) fun ab W hC hB hdep => ?_
        refine .inl ⟨rfl, ?_⟩
        have b0 : ab.tmps.getD 2 undef = .pointer (some ⟨w.heap.size, 0, none⟩) := hB.off 2 (by kernel_rfl)
        obtain ⟨c0, c1, c2, c3, c4, c5, c6, c7⟩ := rowS8 ((hC.block _ HLT.out.1).trans HX2.out)
        clear hB hdep
        refine goes_value (v := .agg #[.int .i64 kx, .string tx, .bool nx, .slice xo xn xc, .slice yo yn yc, .int .i64 ax, .slice po pn pc, .slice qo qn qc]) ?_ hC rfl
        simp only [execOp, Act.eval, b0]
        go_simp
      refine AllOps.cons ?_ ?_
      · refine OpL.early (by kernel_rfl) (by kernel_rfl) fun ab W hC hB hdep => ?_
        refine .inl ⟨rfl, ?_⟩
        obtain ⟨x0, (q0 : (isV (.agg #[.int .i64 kx, .string tx, .bool nx, .slice xo xn xc, .slice yo yn yc, .int .i64 ax, .slice po pn pc, .slice qo qn qc])) x0 W), e0⟩ := hdep 1 14 (by kernel_rfl)
        obtain rfl : x0 = .agg #[.int .i64 kx, .string tx, .bool nx, .slice xo xn xc, .slice yo yn yc, .int .i64 ax, .slice po pn pc, .slice qo qn qc] := q0
        clear hB hdep
        refine goes_call (f := 18) (args := #[.agg #[.int .i64 kx, .string tx, .bool nx, .slice xo xn xc, .slice yo yn yc, .int .i64 ax, .slice po pn pc, .slice qo qn qc]]) ?_ ?_
        · simp only [execOp]
          go_simp
        · exact (worn_any _ _ _ _ _ _ _ _ _ _ _ _ _ _ _ _ W).mono fun e w7 ⟨he, hb⟩ => ⟨_, he, hC.trans (hb.mono hC.size), hb, rfl⟩
      refine AllOps.cons ?_ ?_
      · refine OpL.early (by kernel_rfl) (by kernel_rfl) fun ab W hC hB hdep => ?_
        refine .inl ⟨rfl, ?_⟩
        obtain ⟨x0, (q0 : (isV (.agg #[.slice ma ml mac, .slice sa sl sac])) x0 W), e0⟩ := hdep 0 13 (by kernel_rfl)
        obtain rfl : x0 = .agg #[.slice ma ml mac, .slice sa sl sac] := q0
        obtain ⟨x1, (q1 : (isV (.agg #[.slice po pn pc, .slice qo qn qc])) x1 W), e1⟩ := hdep 2 15 (by kernel_rfl)
        obtain rfl : x1 = .agg #[.slice po pn pc, .slice qo qn qc] := q1
        clear hB hdep
        refine goes_call (f := 17) (args := #[.agg #[.slice ma ml mac, .slice sa sl sac], .agg #[.slice po pn pc, .slice qo qn qc]]) ?_ ?_
        · simp only [execOp]
          go_simp
        · exact (wjoinO_any _ _ m s D.m D.s W (HXW.out.below (HB2.out.trans (hC.mono HB2.out.size))) (HDW.out.below (HB2.out.trans (hC.mono HB2.out.size)))).mono fun e w7 ⟨⟨x7, he, hw7⟩, hb⟩ => by rw [HJ.out] at he hw7; exact ⟨_, he, hC.trans (hb.mono hC.size), hb, x7, rfl, hw7.low hC.size⟩
      refine AllOps.cons ?_ ?_
      · refine OpL.early (by kernel_rfl) (by kernel_rfl) fun ab W hC hB hdep => ?_
        refine .inl ⟨rfl, ?_⟩
        obtain ⟨x0, (q0 : (isJnO w2.heap.size J) x0 W), e0⟩ := hdep 3 16 (by kernel_rfl)
        obtain ⟨jx0, rfl, hj0⟩ := q0
        clear hB hdep
        refine goes_value (v := .tuple #[jx0, .int .i64 J.2.2]) ?_ hC ⟨jx0, rfl, hj0⟩
        simp only [execOp, Act.eval, e0]
        go_simp
      refine AllOps.cons ?_ ?_
      · refine OpL.early (by kernel_rfl) (by kernel_rfl) fun ab W hC hB hdep => ?_
        refine .inl ⟨rfl, ?_⟩
        obtain ⟨x0, (q0 : (isJnO w2.heap.size J) x0 W), e0⟩ := hdep 4 12 (by kernel_rfl)
        obtain ⟨jx0, rfl, hj0⟩ := q0
        clear hB hdep
        refine goes_value (v := jx0) ?_ hC hj0
        simp only [execOp, Act.eval, e0]
        go_simp
      refine AllOps.cons ?_ ?_
      · refine OpL.pure (by kernel_rfl) (by kernel_rfl) fun ab W W1 hC hB hdep => .inl ⟨rfl, ?_⟩
        obtain ⟨x0, (q0 : (isJnO w2.heap.size J) x0 W), e0⟩ := hdep 4 12 (by kernel_rfl)
        obtain ⟨jx0, rfl, hj0⟩ := q0
        clear hB hdep
        refine ⟨.int .i64 J.2.2, ?_, rfl⟩
        simp only [execOp, Act.eval, e0]
        go_simp
      refine AllOps.cons ?_ ?_
      · refine OpL.early (by kernel_rfl) (by kernel_rfl) fun ab W hC hB hdep => ?_
        refine .inl ⟨rfl, ?_⟩
        clear hB hdep
        refine goes_world (v := .pointer (some ⟨W.heap.size, 0, none⟩)) (w1 := W.alloc (.cells #[.slice none 0 0, .slice none 0 0] 30)) ?_ (hC.trans ((below1 W _).mono hC.size)) (below1 W _) ⟨_, rfl, hC.size, heap_alloc_new W _⟩
        simp only [execOp]
        go_simp
      refine AllOps.cons ?_ ?_
      · refine OpL.write (by kernel_rfl) fun vals ab W hC hB hdep => ⟨rfl, ?_⟩
        obtain ⟨(q0 : (isBoxW w2.heap.size) (vals 7) W), e0⟩ := hdep 7 6 (by kernel_rfl)
        generalize vals 7 = x0 at *
        obtain ⟨g0, rfl, hge0, hg0⟩ := q0
        obtain ⟨(q1 : (isWrO w2.heap.size J.1 J.2.1) (vals 5) W), e1⟩ := hdep 5 17 (by kernel_rfl)
        generalize vals 5 = x1 at *
        obtain ⟨u1, v1, rfl, hu1, hv1⟩ := WrO.own q1
        obtain ⟨uo1, uc1, rfl⟩ := own_dslice hu1
        obtain ⟨vo1, vc1, rfl⟩ := own_dslice hv1
        clear hB hdep
        obtain ⟨c0, c1, z1, z2⟩ := rowp2d hg0
        refine writes_skip (w1 := (W.setCell ⟨g0, 0, none⟩ _).setCell ⟨g0, 1, none⟩ _) ?_ ⟨_, _, _, rfl, rfl, rfl⟩
        simp only [execOp, Act.eval, e0, e1]
        go_simp
      refine AllOps.cons ?_ ?_
      · refine OpL.pure (by kernel_rfl) (by kernel_rfl) fun ab W W1 hC hB hdep => .inl ⟨rfl, ?_⟩
        obtain ⟨x0, (q0 : (isV (.int .i64 J.2.2)) x0 W), e0⟩ := hdep 6 18 (by kernel_rfl)
        obtain rfl : x0 = .int .i64 J.2.2 := q0
        clear hB hdep
        refine ⟨.int .i64 J.2.2, ?_, rfl⟩
        simp only [execOp, Act.eval, e0]
        go_simp
      exact trivial
    · intro vals aa W0 w8 hC hFin hB hall
      obtain ⟨(k0 : (isV (.agg #[.slice ma ml mac, .slice sa sl sac])) (vals 0) W0), e0⟩ := hall 0 _ rfl (by decide)
      obtain ⟨(k1 : (isV (.agg #[.int .i64 kx, .string tx, .bool nx, .slice xo xn xc, .slice yo yn yc, .int .i64 ax, .slice po pn pc, .slice qo qn qc])) (vals 1) W0), e1⟩ := hall 1 _ rfl (by decide)
      obtain ⟨(k2 : (isV (.agg #[.slice po pn pc, .slice qo qn qc])) (vals 2) W0), e2⟩ := hall 2 _ rfl (by decide)
      obtain ⟨(k3 : (isJnO w2.heap.size J) (vals 3) W0), e3⟩ := hall 3 _ rfl (by decide)
      obtain ⟨(k4 : (isJnO w2.heap.size J) (vals 4) W0), e4⟩ := hall 4 _ rfl (by decide)
      obtain ⟨(k5 : (isWrO w2.heap.size J.1 J.2.1) (vals 5) W0), e5⟩ := hall 5 _ rfl (by decide)
      obtain ⟨(k6 : (isV (.int .i64 J.2.2)) (vals 6) W0), e6⟩ := hall 6 _ rfl (by decide)
      obtain ⟨(k7 : (isBoxW w2.heap.size) (vals 7) W0), e7⟩ := hall 7 _ rfl (by decide)
      obtain ⟨(k9 : (isV (.int .i64 J.2.2)) (vals 9) W0), e9⟩ := hall 9 _ rfl (by decide)
      have hv : ∀ pq ∈ [((13 : Nat), (.agg #[.slice ma ml mac, .slice sa sl sac] : Value)), ((14 : Nat), (.agg #[.int .i64 kx, .string tx, .bool nx, .slice xo xn xc, .slice yo yn yc, .int .i64 ax, .slice po pn pc, .slice qo qn qc] : Value)), ((15 : Nat), (.agg #[.slice po pn pc, .slice qo qn qc] : Value)), ((16 : Nat), (vals 3 : Value)), ((12 : Nat), (vals 4 : Value)), ((17 : Nat), (vals 5 : Value)), ((18 : Nat), (.int .i64 J.2.2 : Value)), ((6 : Nat), (vals 7 : Value)), ((7 : Nat), (.int .i64 J.2.2 : Value))], aa.tmps.getD pq.1 undef = pq.2 := by
        intro pq hp
        simp only [List.mem_cons, List.not_mem_nil, or_false] at hp
        rcases hp with rfl | rfl | rfl | rfl | rfl | rfl | rfl | rfl | rfl
        · exact (e0 _ rfl).trans k0
        · exact (e1 _ rfl).trans k1
        · exact (e2 _ rfl).trans k2
        · exact e3 _ rfl
        · exact e4 _ rfl
        · exact e5 _ rfl
        · exact (e6 _ rfl).trans k6
        · exact e7 _ rfl
        · exact (e9 _ rfl).trans k9
      have hact := act_fold _ hB hv (by kernel_rfl)
      subst hact
      clear hv hall hB e0 e1 e2 e3 e4 e5 e6 e7 e9
      refine (‹∀ (a : Act) (w : World), Code.wp Tryd.prog _ _ a w → _›) _ _ ?_
      simp only [List.foldl, List.setIfInBounds_toArray, List.set_cons_succ, List.set_cons_zero]
      obtain ⟨q, jo, jc, ko, kc, hpq, hpv, hq, hqx, hmr, hsr, hb8⟩ := fillsO_end hC hFin k7 k5
      rw [hpq, hpv]
      have HQ := Lib.hid hq
      have HBX : Hid (BxW w2 q (.slice jo J.1.length jc) (.slice ko J.2.1.length kc) J.1 J.2.1 w8) := Lib.hid ⟨hqx, hmr, hsr⟩
      have HB8 := Lib.hid (HB2.out.trans (hb8.mono HB2.out.size))
      have HX8 := Lib.hid ((hb8.block _ HLT.out.1).trans HX2.out)
      have HZ8 := Lib.hid ((hb8.block _ (Array.getElem?_eq_some_iff.1 HZ2.out).1).trans HZ2.out)
      have HW8 : Hid (w2.heap.size ≤ w8.heap.size) := Lib.hid hb8.size
      have HLE : Hid (w.heap.size + 3 ≤ w2.heap.size) := Lib.hid (Array.getElem?_eq_some_iff.1 HZ2.out).1
      clear hpq hpv hq hqx hmr hsr hb8 hC hFin k3 k4 HLT HXW HDW HB2 HX2 HW2 HZ2
      generalize vals 3 = v3 at *
      generalize vals 4 = v4 at *
      have HJE : Hid (∀ h : J.2.2 ≠ 0, er = J.2.2 ∧ E = zeroS) := Lib.hid fun h => by
        have h1 := pshE_err HSD.out (m := m) (s := s) (by rw [HJ.out]; exact h)
        rw [HJ.out] at h1
        exact ⟨HER.out.symm.trans h1, HRE.out.symm.trans (pshR_no (by rw [h1]; exact h))⟩
      obtain ⟨J1, J2, jz⟩ := J
      simp only at *
      by_cases h0 : jz = 0
      · subst h0
        obtain ⟨c0, c1, c2, c3, c4, c5, c6, c7⟩ := rowS8 HX8.out
        go_wp2_with fail
        refine (copied_any D.sz D (Nat.le_refl _) HSM.out _ w8 (HD.out.keep HB8.out)).mono ?_
        rintro e w3 ⟨us3, rfl, hso3, hb3⟩
        obtain ⟨ka, ta, na, xoa, xna, xca, yoa, yna, yca, aa, poa, pna, pca, qoa, qna, qca, rfl⟩ := sx_shapes hso3.lay
        have HB3 := Lib.hid (HB8.out.trans (hb3.mono HB8.out.size))
        have hx3 := (hb3.block _ (Array.getElem?_eq_some_iff.1 HX8.out).1).trans HX8.out
        have HZ3 := Lib.hid ((hb3.block _ (Array.getElem?_eq_some_iff.1 HZ8.out).1).trans HZ8.out)
        have HBX3 := Lib.hid (HBX.out.step (P := fun _ => True) (Keeps.of_below hb3) HQ.out fun _ _ _ => trivial)
        have HSO := Lib.hid hso3
        have HSZ := Lib.hid (And.intro HBX.out.mr.lt (And.intro HBX.out.sr.lt (And.intro (Array.getElem?_eq_some_iff.1 HBX.out.qx).1 hb3.size)))
        have HBX := HBX3
        clear hb3 hso3 c0 c1 c2 c3 c4 c5 c6 c7 HBX3
        obtain ⟨d0, d1, d2, d3, d4, d5, d6, d7⟩ := rowS8 hx3
        have z0 := frozen_heap hx3 0
        have z1 := frozen_heap hx3 1
        have z2 := frozen_heap hx3 2
        have z3 := frozen_heap hx3 3
        have z4 := frozen_heap hx3 4
        have z5 := frozen_heap hx3 5
        have z6 := frozen_heap hx3 6
        have z7 := frozen_heap hx3 7
        have hrow := put8w_row hx3 (.int .i64 ka) (.string ta) (.bool na) (.slice xoa xna xca) (.slice yoa yna yca) (.int .i64 aa) (.slice poa pna pca) (.slice qoa qna qca)
        have hkf := put8w_keep (fun b => b ≠ w.heap.size) w3 w.heap.size (by simp) (.int .i64 ka) (.string ta) (.bool na) (.slice xoa xna xca) (.slice yoa yna yca) (.int .i64 aa) (.slice poa pna pca) (.slice qoa qna qca)
        have hbf := put8w_below HB3.out (Nat.le_refl w.heap.size) (.int .i64 ka) (.string ta) (.bool na) (.slice xoa xna xca) (.slice yoa yna yca) (.int .i64 aa) (.slice poa pna pca) (.slice qoa qna qca)
        have HF4 := Lib.hid (And.intro hrow (And.intro hkf hbf))
        clear hrow hkf hbf hx3
        go_upto_region 7 with fail
        clear d0 d1 d2 d3 d4 d5 d6 d7 z0 z1 z2 z3 z4 z5 z6 z7
        unfold put8w at HF4
        generalize World.setCell _ ⟨w.heap.size, 7, none⟩ (.slice qoa qna qca) = w4 at *
        have hle := HLE.out
        have hb8 := HB8.out.size
        have HZ4 := Lib.hid ((HF4.out.2.1.2 _ (Array.getElem?_eq_some_iff.1 HZ3.out).1 (by omega)).trans HZ3.out)
        have hq8 := HSZ.out.2.2.1
        have hw8 := HW8.out
        have hq0 := HQ.out
        have HS4 := Lib.hid (HSO.out.move (HF4.out.2.1.mono fun b _ hb => by have := hb.1; omega))
        have HBX4 := Lib.hid (HBX.out.step HF4.out.2.1 HQ.out fun c h1 h2 => by omega)
        have HX4 := Lib.hid HF4.out.1
        have HB4 := Lib.hid HF4.out.2.2
        have HW4 : Hid (w3.heap.size ≤ w4.heap.size) := Lib.hid HF4.out.2.1.1
        clear HSO HF4 HZ3 HX8 HZ8 HBX hle hb8 hq8 hq0 hw8
        obtain ⟨d0, d1, _, _⟩ := rowp2d HBX4.out.qx
        go_wp2_with fail
        refine (wear_any w.heap.size _ _ _ _ _ _ _ _ jo J1.length jc ko J2.length kc w4 HX4.out).mono ?_
        rintro e w5 ⟨rfl, hx5, hk5, hb5⟩
        have hle := HLE.out
        have hb8 := HB8.out.size
        have hw8 := HW8.out
        have HX5 := Lib.hid hx5
        have HB5 := Lib.hid (HB4.out.trans (hb5 w.heap.size (Nat.le_refl _) HB4.out.size))
        have HZ5 := Lib.hid ((hk5.2 _ (Array.getElem?_eq_some_iff.1 HZ4.out).1 (by omega)).trans HZ4.out)
        have hmr5 := ownsRow_keep HBX4.out.mr hk5 fun c hc => by have := (HBX4.out.mr.lt c hc).1; omega
        have hsr5 := ownsRow_keep HBX4.out.sr hk5 fun c hc => by have := (HBX4.out.sr.lt c hc).1; omega
        have hre := (HS4.out.move (hk5.mono fun b _ hb => by have := hb.1; omega)).re (T := fun b => w2.heap.size ≤ b ∧ b < w5.heap.size) (own_low hmr5 (Nat.zero_le _)) (own_low hsr5 (Nat.zero_le _)) (fun c hc => ⟨⟨(hmr5.lt c hc).1, (hmr5.lt c hc).2⟩, fun h => by have := (HSZ.out.1 c hc).2; have := h.1; omega⟩) (fun c hc => ⟨⟨(hsr5.lt c hc).1, (hsr5.lt c hc).2⟩, fun h => by have := (HSZ.out.2.1 c hc).2; have := h.1; omega⟩) (fun c hc => ⟨by have := hc.1; have := HSZ.out.2.2.1; have := HQ.out; omega, by have := hc.2; have := HW4.out; have := hk5.1; omega⟩)
        have hpe : reS J1 J2 D = pshS m s D := by unfold pshS; rw [HJ.out]
        rw [hpe] at hre
        have HR5 := Lib.hid hre
        clear hx5 hk5 hb5 hmr5 hsr5 hre hpe d0 d1 hle hb8 hw8
        obtain ⟨c0, c1, c2, c3, c4, c5, c6, c7⟩ := rowS8 HX5.out
        go_wp2_with fail
        refine (joins_any _ (pshS m s D) (Nat.le_refl _) _ w5 (.agg #[.slice none 0 0, .slice none 0 0]) [] [] HR5.out.lay ⟨_, _, rfl, Iz.nil _, Iz.nil _⟩).mono ?_
        rintro e w6 ⟨rfl, hb6⟩
        have HB6 := Lib.hid (HB5.out.trans (hb6.mono HB5.out.size))
        have HX6 := Lib.hid ((hb6.block _ (Array.getElem?_eq_some_iff.1 HX5.out).1).trans HX5.out)
        have HZ6 := Lib.hid ((hb6.block _ (Array.getElem?_eq_some_iff.1 HZ5.out).1).trans HZ5.out)
        have HR6 := Lib.hid (HR5.out.under hb6)
        have HW6 : Hid (w5.heap.size ≤ w6.heap.size) := Lib.hid hb6.size
        clear hb6 c0 c1 c2 c3 c4 c5 c6 c7
        cases hj : jnsB [] [] (pshS m s D) with
        | false =>
          have h1 := pshE_large HSD.out (m := m) (s := s) (by rw [HJ.out]) hj
          obtain rfl : er = 6 := HER.out.symm.trans h1
          obtain rfl : E = zeroS := HRE.out.symm.trans (pshR_no (by rw [h1]; decide))
          clear hj h1
          have hz := HZ6.out
          obtain ⟨d0, d1, d2, d3, d4, d5, d6, d7⟩ := rowS8 hz
          have z0 := frozen_heap hz 0
          have z1 := frozen_heap hz 1
          have z2 := frozen_heap hz 2
          have z3 := frozen_heap hz 3
          have z4 := frozen_heap hz 4
          have z5 := frozen_heap hz 5
          have z6 := frozen_heap hz 6
          have z7 := frozen_heap hz 7
          have hrow := put8w_row hz (.int .i64 0) (.string ⟨#[]⟩) (.bool false) (.slice none 0 0) (.slice none 0 0) (.int .i64 0) (.slice none 0 0) (.slice none 0 0)
          have hbf := put8w_below HB6.out (show w.heap.size ≤ w.heap.size + 2 by omega) (.int .i64 0) (.string ⟨#[]⟩) (.bool false) (.slice none 0 0) (.slice none 0 0) (.int .i64 0) (.slice none 0 0) (.slice none 0 0)
          have HF9 := Lib.hid (And.intro hrow hbf)
          clear hrow hbf hz
          go_wp2_with fail
          clear d0 d1 d2 d3 d4 d5 d6 d7 z0 z1 z2 z3 z4 z5 z6 z7
          unfold put8w at HF9
          generalize World.setCell _ ⟨w.heap.size + 2, 7, none⟩ (.slice none 0 0) = W9 at *
          obtain ⟨g0, g1, g2, g3, g4, g5, g6, g7⟩ := rowS8 HF9.out.1
          refine bodyPost_ret (v := .tuple #[.agg #[.int .i64 0, .string ⟨#[]⟩, .bool false, .slice none 0 0, .slice none 0 0, .int .i64 0, .slice none 0 0, .slice none 0 0], .int .i64 6]) (by simp [results, Tryd.results7, go_sem, g0, g1, g2, g3, g4, g5, g6, g7]) rfl ?_

          exact ⟨zeroU, rfl, sown_zero _ _, HF9.out.2⟩
        | true =>
          have h1 := pshE_ok HSD.out (m := m) (s := s) (by rw [HJ.out]) hj
          obtain rfl : er = 0 := HER.out.symm.trans h1
          obtain rfl : E = pshS m s D := HRE.out.symm.trans (pshR_ok h1)
          clear hj h1 HER HRE
          obtain ⟨e0, e1, e2, e3, e4, e5, e6, e7⟩ := rowS8 HX6.out
          have hz := HZ6.out
          obtain ⟨d0, d1, d2, d3, d4, d5, d6, d7⟩ := rowS8 hz
          have z0 := frozen_heap hz 0
          have z1 := frozen_heap hz 1
          have z2 := frozen_heap hz 2
          have z3 := frozen_heap hz 3
          have z4 := frozen_heap hz 4
          have z5 := frozen_heap hz 5
          have z6 := frozen_heap hz 6
          have z7 := frozen_heap hz 7
          have hrow := put8w_row hz (.int .i64 ka) (.string ta) (.bool na) (.slice xoa xna xca) (.slice yoa yna yca) (.int .i64 aa) (.slice jo J1.length jc) (.slice ko J2.length kc)
          have hkf := put8w_keep (fun b => b ≠ w.heap.size + 2) w6 (w.heap.size + 2) (by simp) (.int .i64 ka) (.string ta) (.bool na) (.slice xoa xna xca) (.slice yoa yna yca) (.int .i64 aa) (.slice jo J1.length jc) (.slice ko J2.length kc)
          have hbf := put8w_below HB6.out (show w.heap.size ≤ w.heap.size + 2 by omega) (.int .i64 ka) (.string ta) (.bool na) (.slice xoa xna xca) (.slice yoa yna yca) (.int .i64 aa) (.slice jo J1.length jc) (.slice ko J2.length kc)
          have HF9 := Lib.hid (And.intro hrow (And.intro hkf hbf))
          clear hrow hkf hbf hz
          go_wp2_with fail
          clear e0 e1 e2 e3 e4 e5 e6 e7 d0 d1 d2 d3 d4 d5 d6 d7 z0 z1 z2 z3 z4 z5 z6 z7
          unfold put8w at HF9
          generalize World.setCell _ ⟨w.heap.size + 2, 7, none⟩ (.slice ko J2.length kc) = W9 at *
          obtain ⟨g0, g1, g2, g3, g4, g5, g6, g7⟩ := rowS8 HF9.out.1
          refine bodyPost_ret (v := .tuple #[.agg #[.int .i64 ka, .string ta, .bool na, .slice xoa xna xca, .slice yoa yna yca, .int .i64 aa, .slice jo J1.length jc, .slice ko J2.length kc], .int .i64 0]) (by simp [results, Tryd.results7, go_sem, g0, g1, g2, g3, g4, g5, g6, g7]) rfl ?_

          have hle := HLE.out
          have h9 := HF9.out.2.1.1
          have h6 := HW6.out
          exact ⟨_, rfl, (HR6.out.move (HF9.out.2.1.mono fun b _ hb e => by have h1 := hb.1; omega)).mono fun b hb => ⟨by have := hb.1; omega, by have := hb.2; omega⟩, HF9.out.2.2⟩
      · obtain ⟨rfl, rfl⟩ := HJE.out h0
        have hne : (er != 0) = true := by rw [bne_iff_ne]; exact h0
        have hnq : (er == 0) = false := by rw [beq_eq_false_iff_ne]; exact h0
        have hz := HZ8.out
        obtain ⟨d0, d1, d2, d3, d4, d5, d6, d7⟩ := rowS8 hz
        have z0 := frozen_heap hz 0
        have z1 := frozen_heap hz 1
        have z2 := frozen_heap hz 2
        have z3 := frozen_heap hz 3
        have z4 := frozen_heap hz 4
        have z5 := frozen_heap hz 5
        have z6 := frozen_heap hz 6
        have z7 := frozen_heap hz 7
        have hrow := put8w_row hz (.int .i64 0) (.string ⟨#[]⟩) (.bool false) (.slice none 0 0) (.slice none 0 0) (.int .i64 0) (.slice none 0 0) (.slice none 0 0)
        have hbf := put8w_below HB8.out (show w.heap.size ≤ w.heap.size + 2 by omega) (.int .i64 0) (.string ⟨#[]⟩) (.bool false) (.slice none 0 0) (.slice none 0 0) (.int .i64 0) (.slice none 0 0) (.slice none 0 0)
        have HF9 := Lib.hid (And.intro hrow hbf)
        clear hrow hbf hz
        go_wp2_with fail
        clear d0 d1 d2 d3 d4 d5 d6 d7 z0 z1 z2 z3 z4 z5 z6 z7
        unfold put8w at HF9
        generalize World.setCell _ ⟨w.heap.size + 2, 7, none⟩ (.slice none 0 0) = W9 at *
        obtain ⟨g0, g1, g2, g3, g4, g5, g6, g7⟩ := rowS8 HF9.out.1
        refine bodyPost_ret (v := .tuple #[.agg #[.int .i64 0, .string ⟨#[]⟩, .bool false, .slice none 0 0, .slice none 0 0, .int .i64 0, .slice none 0 0, .slice none 0 0], .int .i64 er]) (by simp [results, Tryd.results7, go_sem, g0, g1, g2, g3, g4, g5, g6, g7]) rfl ?_

        exact ⟨zeroU, rfl, sown_zero _ _, HF9.out.2⟩
end Go.Proofs.YtbfcbicbeagjkaaDoor
