/- x -/
import Derived.Test.YtbfcbicbeagjkaaGreatDoorSxTree
import Derived.Test.YtbfcbicbeagjkaaGreatDoorSxReg
import Derived.Test.YtbfcbicbeagjkaaGreatDoorSxStr
import Derived.Test.YtbfcbicbeagjkaaGreatDoorDmOwnP
namespace Go.Proofs.YtbfcbicbeagjkaaGreatDoor
open Go.RowKit
theorem nil_pair {m s : List Int} (h : sndW m s = true) (hs : s = []) : m = [] := by
 have := sndW_zcs h
 subst hs
 exact List.eq_nil_of_length_eq_zero this.symm
theorem ne_pair {m s : List Int} (h : sndW m s = true) (hm : m ≠ []) : s ≠ [] := fun e => hm (nil_pair h e)
theorem begB_iff {n t : List Int} (h : begB n t = true) (hw : sndW n t = true) : n = -1 :: n.tail ∧ t = 0 :: t.tail := by
 unfold begB at h
 simp only [Bool.and_eq_true, decide_eq_true_iff] at h
 obtain ⟨h1, h2, h3⟩ := h
 have hn : n ≠ [] := List.length_pos_iff.1 h1
 have ht := ne_pair hw hn
 cases n with
 | nil => exact absurd rfl hn
 | cons x n =>
  cases t with
  | nil => exact absurd rfl ht
  | cons y t =>
   rw [gz_cons0] at h2 h3
   subst h2 h3
   exact ⟨rfl, rfl⟩
theorem endB_cons {c d : Int} {m s : List Int} (hm : m ≠ []) (hs : s ≠ []) : endB (c :: m) (d :: s) = endB m s := by
 unfold endB
 rw [gz_last_cons hm, gz_last_cons hs, decide_eq_true (List.length_pos_iff.2 hm), decide_eq_true (show 0 < (c :: m).length by simp)]
theorem endB_nil (s : List Int) : endB [] s = false := by unfold endB; rfl
theorem endB_rib {m s : List Int} (h : gz s (s.length - 1) ≠ 0) : endB m s = false := by
 unfold endB
 rw [decide_eq_false h, Bool.and_false, Bool.and_false]
theorem Rk_step {c : Int} (hc : 0 < c) {u v : List Int × List Int × Int} {n t : List Int} (h : Rk c u v) (e1 : (wjA u.1 u.2.1 n t).2.2 = 0) (e2 : (wjA v.1 v.2.1 n t).2.2 = 0) : Rk c (wjA u.1 u.2.1 n t) (wjA v.1 v.2.1 n t) := by
 obtain ⟨um, us, ue⟩ := u
 obtain ⟨vm, vs, ve⟩ := v
 simp only [Rk] at h e1 e2 ⊢
 obtain ⟨su, sy, a1, a2⟩ := joinA_zero e1
 obtain ⟨sv, _, b1, b2⟩ := joinA_zero e2
 rw [a1, a2, b1, b2]
 rcases h with ⟨rfl, rfl⟩ | ⟨rfl, rfl⟩
 . by_cases hm : vm = []
   . subst hm
     rw [endB_nil, Bool.false_and]
     by_cases hs : vs = []
     . subst hs
       have hE : endB [c] [0] = true := by
        unfold endB
        have : ¬ c = -1 := by omega
        simp [gz, this]
       rw [hE, Bool.true_and]
       cases hb : begB n t with
       | true =>
        right
        obtain ⟨hn, ht⟩ := begB_iff hb sy
        refine ⟨?_, ?_⟩
        . show [] ++ n = -1 :: ([] ++ n.tail)
          exact hn
        . show [] ++ t = 0 :: ([] ++ t.tail)
          exact ht
       | false => left; exact ⟨rfl, rfl⟩
     . have h0 : zc vs = 0 := sndW_zcs sv
       have hE : endB [c] (0 :: vs) = false := endB_rib (by rw [gz_last_cons hs]; exact (zc_pos hs h0).1)
       rw [hE, Bool.false_and]
       left; exact ⟨rfl, rfl⟩
   . have hs := ne_pair sv hm
     rw [endB_cons hm hs]
     left
     rw [cutL_cons hm, cutL_cons hs]
     exact ⟨rfl, rfl⟩
 . by_cases hm : um = []
   . subst hm
     have hE : endB [-1] (0 :: us) = false := by unfold endB; simp [gz]
     rw [hE, endB_nil, Bool.false_and]
     right; exact ⟨rfl, rfl⟩
   . have hs := ne_pair su hm
     rw [endB_cons hm hs]
     right
     rw [cutL_cons hm, cutL_cons hs]
     exact ⟨rfl, rfl⟩
theorem mark_mean {c : Int} (hc : 0 < c) : ∀ (f : Nat) (D : Sx), okD f (dtm D) = true → ∀ {u v : List Int × List Int × Int}, Rk c u v → fltB u.1 u.2.1 D = true → fltB v.1 v.2.1 D = true → sameS f (fltS u.1 u.2.1 D) (fltS v.1 v.2.1 D) = !symS f D := by
 intro f
 induction f with
 | zero => intro D h; cases h
 | succ f ih =>
  intro D hD u v hR hu hv
  obtain ⟨k, t, n, r, l, a, dm, ds⟩ := D
  obtain ⟨u0, ul⟩ := fltB_iff.1 hu
  obtain ⟨v0, vl⟩ := fltB_iff.1 hv
  obtain ⟨hk, h4⟩ := okD_kids hD
  have hR2 := Rk_step hc hR u0 v0
  rw [fltS_mk, fltS_mk]
  by_cases hk4 : k = 4
  . obtain rfl := h4 hk4
    have e : symS (f + 1) (.mk k t n r [] a dm ds) = true := by rw [symS_end fun j hj => by cases hj]; exact decide_eq_true hk4
    rw [e]
    simp only [if_pos hk4]
    exact notS fun h => hR2.ne h.2.2.2.1
  . simp only [if_neg hk4]
    have e : symS (f + 1) (.mk k t n r l a dm ds) = l.any (symS f) := by
     unfold symS
     rw [decide_eq_false (show ¬ (Sx.mk k t n r l a dm ds).k = 4 from hk4), Bool.or_false]
     rfl
    rw [e]
    have hc2 : ∀ x ∈ l, sameS f (fltS (wjA u.1 u.2.1 dm ds).1 (wjA u.1 u.2.1 dm ds).2.1 x) (fltS (wjA v.1 v.2.1 dm ds).1 (wjA v.1 v.2.1 dm ds).2.1 x) = !symS f x := fun x hx => ih x (hk x hx) hR2 (ul x hx) (vl x hx)
    rw [Bool.eq_iff_iff, sameS_iff, Bool.not_eq_true', List.any_eq_false]
    constructor
    . rintro ⟨_, _, _, _, _, _, h7⟩ x hx
      obtain ⟨j, hj, rfl⟩ := List.mem_iff_getElem.1 hx
      have := h7 j (by simpa using hj) (by simpa using hj)
      rw [List.getElem_map, List.getElem_map, hc2 _ (List.getElem_mem hj)] at this
      simpa using this
    . intro h
      refine ⟨rfl, rfl, ⟨rfl, rfl⟩, rfl, rfl, by rw [List.length_map, List.length_map], fun j hj0 _ => ?_⟩
      have hj : j < l.length := by simpa using hj0
      rw [List.getElem_map, List.getElem_map, hc2 _ (List.getElem_mem hj)]
      have := h _ (List.getElem_mem hj)
      simpa using this
theorem mark_push {c : Int} (hc : 0 < c) {D : Sx} (hD : sndX D = true) (h0 : (wjA [c] [0] D.m D.s).2.2 = 0) (hP : fltB [] [] (pshS [c] [0] D) = true) : meanS (pshS [c] [0] D) D = !symS 100 D := by
 unfold meanS
 have h1 := flt_psh h0
 rw [h1.2]
 have h2 := h1.1 ▸ hP
 obtain ⟨o, f⟩ := sndX_parts hD
 exact mark_mean hc 100 D (okD_le (by omega) o) (u := ([c], [0], 0)) (v := ([], [], 0)) (.inl ⟨rfl, rfl⟩) h2 f
end Go.Proofs.YtbfcbicbeagjkaaGreatDoor
namespace Go.Proofs.YtbfcbicbeagjkaaGreatDoor
open Go.RowKit
def RsR (err : Int) (E : Sx) (w : World) (e : Ending) (w' : World) : Prop := ∃ kx tx nx xo xn xc yo yn yc ax po pn pc qo qn qc, e = .returned (.tuple #[.agg #[.int .i64 kx, .string tx, .bool nx, .slice xo xn xc, .slice yo yn yc, .int .i64 ax, .slice po pn pc, .slice qo qn qc], .int .i64 err]) ∧ SLay w' E [.int .i64 kx, .string tx, .bool nx, .slice xo xn xc, .slice yo yn yc, .int .i64 ax, .slice po pn pc, .slice qo qn qc] ∧ Below w.heap.size w w'
theorem slay_zero (w : World) : SLay w zeroS [.int .i64 0, .string ⟨#[]⟩, .bool false, .slice none 0 0, .slice none 0 0, .int .i64 0, .slice none 0 0, .slice none 0 0] := (sown_zero (fun _ => True) w).lay
theorem light_map {f : Nat} {g : Sx → Sx} {l : List Sx} (h : ∀ (j : Nat) (hj : j < l.length), lightS f (l[j]'hj) = true) (hg : ∀ d, lightS f d = true → lightS f (g d) = true) : ∀ (j : Nat) (hj : j < (l.map g).length), lightS f ((l.map g)[j]'hj) = true := by
 intro j hj
 rw [List.getElem_map]
 exact hg _ (h j (by simpa using hj))
theorem flt_light : ∀ {f : Nat} {D : Sx}, lightS f D = true → ∀ m s : List Int, lightS f (fltS m s D) = true := by
 intro f
 induction f with
 | zero => intro D h; cases h
 | succ f ih =>
  intro D h m s
  obtain ⟨k, t, n, r, l, a, dm, ds⟩ := D
  obtain ⟨h1, h2, h3, h4⟩ := lightS_mem h
  have h1' : l.length ≤ 300 := h1
  rw [fltS_mk]
  have hw := wjA_len m s dm ds
  refine lightS_yes ?_ ?_ ?_ (light_map h4 fun d hd => ih hd _ _)
  . show (l.map _).length ≤ 300
    rw [List.length_map]
    exact h1'
  . show (if k = 4 then _ else _ : List Int).length ≤ 600
    split
    . omega
    . exact Nat.zero_le _
  . show (if k = 4 then _ else _ : List Int).length ≤ 600
    split
    . omega
    . exact Nat.zero_le _
set_option maxRecDepth 100000 in
set_option maxHeartbeats 8000000 in
theorem rflat_any (D : Sx) (us : List Value) (w : World) (hd : SLay w D us) (hsm : SmS 1100000 D) :
 Calls Tryz.prog 29 #[.agg us.toArray] w (RsR (sndE D) (fltR D) w) := by
 have HD := Lib.hid hd
 have HSM := Lib.hid hsm
 have HLP := Lib.hid hd.layP
 obtain ⟨kx, tx, nx, xo, xn, xc, yo, yn, yc, ax, po, pn, pc, qo, qn, qc, rfl⟩ := sx_shapes hd
 clear hd hsm
 obtain ⟨er, HER⟩ : ∃ x, Hid (sndE D = x) := ⟨_, Lib.hid rfl⟩
 obtain ⟨E, HRE⟩ : ∃ x, Hid (fltR D = x) := ⟨_, Lib.hid rfl⟩
 rw [HER.out, HRE.out]
 have hb1 := below2 w (.cells #[.int .i64 kx, .string tx, .bool nx, .slice xo xn xc, .slice yo yn yc, .int .i64 ax, .slice po pn pc, .slice qo qn qc] 35) (.cells #[.int .i64 0, .string ⟨#[]⟩, .bool false, .slice none 0 0, .slice none 0 0, .int .i64 0, .slice none 0 0, .slice none 0 0] 35)
 have hn1 := @newsd2 w (.cells #[.int .i64 kx, .string tx, .bool nx, .slice xo xn xc, .slice yo yn yc, .int .i64 ax, .slice po pn pc, .slice qo qn qc] 35) (.cells #[.int .i64 0, .string ⟨#[]⟩, .bool false, .slice none 0 0, .slice none 0 0, .int .i64 0, .slice none 0 0, .slice none 0 0] 35)
 show Calls Tryz.prog 29 #[.agg #[.int .i64 kx, .string tx, .bool nx, .slice xo xn xc, .slice yo yn yc, .int .i64 ax, .slice po pn pc, .slice qo qn qc]] w _
 go_enter Tryz.func29, Tryz.ntmps29
 go_upto_region 1 with fail
 generalize (w.alloc (.cells #[.int .i64 kx, .string tx, .bool nx, .slice xo xn xc, .slice yo yn yc, .int .i64 ax, .slice po pn pc, .slice qo qn qc] 35)).alloc (.cells #[.int .i64 0, .string ⟨#[]⟩, .bool false, .slice none 0 0, .slice none 0 0, .int .i64 0, .slice none 0 0, .slice none 0 0] 35) = w1 at *
 have HB1 := Lib.hid hb1
 have HX1 := Lib.hid hn1.1
 have HZ1 := Lib.hid hn1.2
 clear hb1 hn1
 obtain ⟨c0, c1, c2, c3, c4, c5, c6, c7⟩ := rowS8 HX1.out
 go_wp2_with fail
 refine (rxsound_any D _ w1 (HD.out.keep HB1.out) HSM.out).mono ?_
 rintro e w2 ⟨rfl, hb2⟩
 have HB2 := Lib.hid (HB1.out.trans (hb2.mono HB1.out.size))
 have HX2 := Lib.hid ((hb2.block _ (Array.getElem?_eq_some_iff.1 HX1.out).1).trans HX1.out)
 have HZ2 := Lib.hid ((hb2.block _ (Array.getElem?_eq_some_iff.1 HZ1.out).1).trans HZ1.out)
 clear hb2 HB1 HX1 HZ1 c0 c1 c2 c3 c4 c5 c6 c7
 cases hs : sndX D with
 | false =>
  obtain rfl : er = 2 := HER.out.symm.trans (by unfold sndE; rw [if_neg (by rw [hs]; decide)])
  obtain rfl : E = zeroS := HRE.out.symm.trans (by unfold fltR; rw [if_neg (by rw [hs]; decide)])
  clear hs
  have hz := HZ2.out
  obtain ⟨d0, d1, d2, d3, d4, d5, d6, d7⟩ := rowS8 hz
  have z0 := frozen_heap hz 0
  have z1 := frozen_heap hz 1
  have z2 := frozen_heap hz 2
  have z3 := frozen_heap hz 3
  have z4 := frozen_heap hz 4
  have z5 := frozen_heap hz 5
  have z6 := frozen_heap hz 6
  have z7 := frozen_heap hz 7
  have hrow := put8w_row hz (.int .i64 0) (.string ⟨#[]⟩) (.bool false) (.slice none 0 0) (.slice none 0 0) (.int .i64 0) (.slice none 0 0) (.slice none 0 0)
  have hbf := put8w_below HB2.out (show w.heap.size ≤ w.heap.size + 1 by omega) (.int .i64 0) (.string ⟨#[]⟩) (.bool false) (.slice none 0 0) (.slice none 0 0) (.int .i64 0) (.slice none 0 0) (.slice none 0 0)
  have HF9 := Lib.hid (And.intro hrow hbf)
  clear hrow hbf hz
  go_wp2_with fail
  clear d0 d1 d2 d3 d4 d5 d6 d7 z0 z1 z2 z3 z4 z5 z6 z7
  unfold put8w at HF9
  generalize World.setCell _ ⟨w.heap.size + 1, 7, none⟩ (.slice none 0 0) = W9 at *
  obtain ⟨g0, g1, g2, g3, g4, g5, g6, g7⟩ := rowS8 HF9.out.1
  refine bodyPost_ret (v := .tuple #[.agg #[.int .i64 0, .string ⟨#[]⟩, .bool false, .slice none 0 0, .slice none 0 0, .int .i64 0, .slice none 0 0, .slice none 0 0], .int .i64 2]) (by simp [results, Tryz.results29, go_sem, g0, g1, g2, g3, g4, g5, g6, g7]) rfl ?_
  exact ⟨_, _, _, _, _, _, _, _, _, _, _, _, _, _, _, _, rfl, slay_zero _, HF9.out.2⟩
 | true =>
  obtain rfl : er = 0 := HER.out.symm.trans (by unfold sndE; rw [if_pos hs])
  obtain rfl : E = fltS [] [] D := HRE.out.symm.trans (by unfold fltR; rw [if_pos hs])
  have HFB := Lib.hid (sndX_parts hs).2
  clear hs HER HRE
  obtain ⟨c0, c1, c2, c3, c4, c5, c6, c7⟩ := rowS8 HX2.out
  go_wp2_with fail
  refine (sflat_any D.sz D (Nat.le_refl _) HSM.out w.heap.size _ w2 (.slice none 0 0) (.slice none 0 0) [] [] (HLP.out.move (Keeps.of_below HB2.out)) HB2.out.size (Iz.nil _) (Iz.nil _)).mono ?_
  rintro e w3 ⟨⟨kb, tb, nb, xob, xnb, xcb, yob, ynb, ycb, ab, pob, pnb, pcb, qob, qnb, qcb, rfl, hyes⟩, hb3⟩
  have HLY := Lib.hid (hyes HFB.out)
  have HB3 := Lib.hid (HB2.out.trans (hb3.mono HB2.out.size))
  have HZ3 := Lib.hid ((hb3.block _ (Array.getElem?_eq_some_iff.1 HZ2.out).1).trans HZ2.out)
  have HLE : Hid (w.heap.size + 2 ≤ w2.heap.size) := Lib.hid (Array.getElem?_eq_some_iff.1 HZ2.out).1
  clear hb3 hyes c0 c1 c2 c3 c4 c5 c6 c7 HX2 HZ2
  have hb4 := below1 w3 (.cells #[.int .i64 kb, .string tb, .bool nb, .slice xob xnb xcb, .slice yob ynb ycb, .int .i64 ab, .slice pob pnb pcb, .slice qob qnb qcb] 35)
  have hn4 := heap_alloc_new w3 (.cells #[.int .i64 kb, .string tb, .bool nb, .slice xob xnb xcb, .slice yob ynb ycb, .int .i64 ab, .slice pob pnb pcb, .slice qob qnb qcb] 35)
  go_upto_region 4 with fail
  generalize hww : w3.alloc (.cells #[.int .i64 kb, .string tb, .bool nb, .slice xob xnb xcb, .slice yob ynb ycb, .int .i64 ab, .slice pob pnb pcb, .slice qob qnb qcb] 35) = w4 at *
  have HB4 := Lib.hid (HB3.out.trans (hb4.mono HB3.out.size))
  have HX4 := Lib.hid hn4
  have HZ4 := Lib.hid ((hb4.block _ (Array.getElem?_eq_some_iff.1 HZ3.out).1).trans HZ3.out)
  have HL4 := Lib.hid (HLY.out.move (Keeps.of_below hb4))
  clear hb4 hn4 hww HLY HZ3
  obtain ⟨e0, e1, e2, e3, e4, e5, e6, e7⟩ := rowS8 HX4.out
  have hz := HZ4.out
  obtain ⟨d0, d1, d2, d3, d4, d5, d6, d7⟩ := rowS8 hz
  have z0 := frozen_heap hz 0
  have z1 := frozen_heap hz 1
  have z2 := frozen_heap hz 2
  have z3 := frozen_heap hz 3
  have z4 := frozen_heap hz 4
  have z5 := frozen_heap hz 5
  have z6 := frozen_heap hz 6
  have z7 := frozen_heap hz 7
  have hrow := put8w_row hz (.int .i64 kb) (.string tb) (.bool nb) (.slice xob xnb xcb) (.slice yob ynb ycb) (.int .i64 ab) (.slice pob pnb pcb) (.slice qob qnb qcb)
  have hkf := put8w_keep (fun b => b ≠ w.heap.size + 1) w4 (w.heap.size + 1) (by simp) (.int .i64 kb) (.string tb) (.bool nb) (.slice xob xnb xcb) (.slice yob ynb ycb) (.int .i64 ab) (.slice pob pnb pcb) (.slice qob qnb qcb)
  have hbf := put8w_below HB4.out (show w.heap.size ≤ w.heap.size + 1 by omega) (.int .i64 kb) (.string tb) (.bool nb) (.slice xob xnb xcb) (.slice yob ynb ycb) (.int .i64 ab) (.slice pob pnb pcb) (.slice qob qnb qcb)
  have HF9 := Lib.hid (And.intro hrow (And.intro hkf hbf))
  clear hrow hkf hbf hz
  go_wp2_with fail
  clear e0 e1 e2 e3 e4 e5 e6 e7 d0 d1 d2 d3 d4 d5 d6 d7 z0 z1 z2 z3 z4 z5 z6 z7
  unfold put8w at HF9
  generalize World.setCell _ ⟨w.heap.size + 1, 7, none⟩ (.slice qob qnb qcb) = W9 at *
  obtain ⟨g0, g1, g2, g3, g4, g5, g6, g7⟩ := rowS8 HF9.out.1
  refine bodyPost_ret (v := .tuple #[.agg #[.int .i64 kb, .string tb, .bool nb, .slice xob xnb xcb, .slice yob ynb ycb, .int .i64 ab, .slice pob pnb pcb, .slice qob qnb qcb], .int .i64 0]) (by simp [results, Tryz.results29, go_sem, g0, g1, g2, g3, g4, g5, g6, g7]) rfl ?_
  have hle := HLE.out
  exact ⟨_, _, _, _, _, _, _, _, _, _, _, _, _, _, _, _, rfl, (HL4.out.move (HF9.out.2.1.mono fun b _ hb => by omega)).lay, HF9.out.2.2⟩
set_option maxRecDepth 100000 in
set_option maxHeartbeats 8000000 in
theorem rxsame_any (D E : Sx) (us vs : List Value) (w : World) (hd : SLay w D us) (he : SLay w E vs) (hsm : SmS 1100000 D) (hsm2 : SmS 1100000 E) (hlt : lightS 100 D = true) :
 Calls Tryz.prog 32 #[.agg us.toArray, .agg vs.toArray] w fun e w' => e = .returned (.bool (samX D E)) ∧ Below w.heap.size w w' := by
 have HD := Lib.hid hd
 have HE := Lib.hid he
 have HSM := Lib.hid (And.intro hsm hsm2)
 have HLT := Lib.hid hlt
 obtain ⟨kx, tx, nx, xo, xn, xc, yo, yn, yc, ax, po, pn, pc, qo, qn, qc, rfl⟩ := sx_shapes hd
 obtain ⟨kz, tz, nz, zo, zn, zc, uo, un, uc, az, vo, vn, vc, wo, wn, wc, rfl⟩ := sx_shapes he
 clear hd he hsm hsm2 hlt
 obtain ⟨res, HRES⟩ : ∃ b, Hid (samX D E = b) := ⟨_, Lib.hid rfl⟩
 rw [HRES.out]
 have hb1 := below2 w (.cells #[.int .i64 kx, .string tx, .bool nx, .slice xo xn xc, .slice yo yn yc, .int .i64 ax, .slice po pn pc, .slice qo qn qc] 35) (.cells #[.int .i64 kz, .string tz, .bool nz, .slice zo zn zc, .slice uo un uc, .int .i64 az, .slice vo vn vc, .slice wo wn wc] 35)
 have hn1 := @newsd2 w (.cells #[.int .i64 kx, .string tx, .bool nx, .slice xo xn xc, .slice yo yn yc, .int .i64 ax, .slice po pn pc, .slice qo qn qc] 35) (.cells #[.int .i64 kz, .string tz, .bool nz, .slice zo zn zc, .slice uo un uc, .int .i64 az, .slice vo vn vc, .slice wo wn wc] 35)
 show Calls Tryz.prog 32 #[.agg #[.int .i64 kx, .string tx, .bool nx, .slice xo xn xc, .slice yo yn yc, .int .i64 ax, .slice po pn pc, .slice qo qn qc], .agg #[.int .i64 kz, .string tz, .bool nz, .slice zo zn zc, .slice uo un uc, .int .i64 az, .slice vo vn vc, .slice wo wn wc]] w _
 go_enter Tryz.func32, Tryz.ntmps32
 go_upto_region 1 with fail
 generalize (w.alloc (.cells #[.int .i64 kx, .string tx, .bool nx, .slice xo xn xc, .slice yo yn yc, .int .i64 ax, .slice po pn pc, .slice qo qn qc] 35)).alloc (.cells #[.int .i64 kz, .string tz, .bool nz, .slice zo zn zc, .slice uo un uc, .int .i64 az, .slice vo vn vc, .slice wo wn wc] 35) = w1 at *
 have HB1 := Lib.hid hb1
 have HX1 := Lib.hid hn1.1
 have HY1 := Lib.hid hn1.2
 clear hb1 hn1
 obtain ⟨c0, c1, c2, c3, c4, c5, c6, c7⟩ := rowS8 HX1.out
 go_wp2_with fail
 refine (rflat_any D _ w1 (HD.out.keep HB1.out) HSM.out.1).mono ?_
 rintro e w2 ⟨kb, tb, nb, xob, xnb, xcb, yob, ynb, ycb, ab, pob, pnb, pcb, qob, qnb, qcb, rfl, hl2, hb2⟩
 have HB2 := Lib.hid (HB1.out.trans (hb2.mono HB1.out.size))
 have HY2 := Lib.hid ((hb2.block _ (Array.getElem?_eq_some_iff.1 HY1.out).1).trans HY1.out)
 clear hb2 HX1 HY1 c0 c1 c2 c3 c4 c5 c6 c7
 have hb3 := below1 w2 (.cells #[.int .i64 kb, .string tb, .bool nb, .slice xob xnb xcb, .slice yob ynb ycb, .int .i64 ab, .slice pob pnb pcb, .slice qob qnb qcb] 35)
 have hn3 := heap_alloc_new w2 (.cells #[.int .i64 kb, .string tb, .bool nb, .slice xob xnb xcb, .slice yob ynb ycb, .int .i64 ab, .slice pob pnb pcb, .slice qob qnb qcb] 35)
 go_upto_region 2 with fail
 obtain ⟨pa, hpa⟩ : ∃ b, w2.heap.size = b := ⟨_, rfl⟩
 generalize w2.alloc (.cells #[.int .i64 kb, .string tb, .bool nb, .slice xob xnb xcb, .slice yob ynb ycb, .int .i64 ab, .slice pob pnb pcb, .slice qob qnb qcb] 35) = w3 at *
 have HB3 := Lib.hid (HB2.out.trans (hb3.mono HB2.out.size))
 have HY3 := Lib.hid ((hb3.block _ (Array.getElem?_eq_some_iff.1 HY2.out).1).trans HY2.out)
 have HL3 := Lib.hid (hl2.keep hb3)
 rw [hpa] at hn3 ⊢
 have HP3 := Lib.hid hn3
 clear hb3 hn3 hl2 hpa HY2
 obtain ⟨c0, c1, c2, c3, c4, c5, c6, c7⟩ := rowS8 HY3.out
 go_wp2_with fail
 refine (rflat_any E _ w3 (HE.out.keep HB3.out) HSM.out.2).mono ?_
 rintro e w4 ⟨ke, te, ne, xoe, xne, xce, yoe, yne, yce, ae, poe, pne, pce, qoe, qne, qce, rfl, hl4, hb4⟩
 have HB4 := Lib.hid (HB3.out.trans (hb4.mono HB3.out.size))
 have HP4 := Lib.hid ((hb4.block _ (Array.getElem?_eq_some_iff.1 HP3.out).1).trans HP3.out)
 have HL4 := Lib.hid (HL3.out.keep hb4)
 clear hb4 c0 c1 c2 c3 c4 c5 c6 c7 HP3 HL3 HY3
 have hb5 := below1 w4 (.cells #[.int .i64 ke, .string te, .bool ne, .slice xoe xne xce, .slice yoe yne yce, .int .i64 ae, .slice poe pne pce, .slice qoe qne qce] 35)
 have hn5 := heap_alloc_new w4 (.cells #[.int .i64 ke, .string te, .bool ne, .slice xoe xne xce, .slice yoe yne yce, .int .i64 ae, .slice poe pne pce, .slice qoe qne qce] 35)
 go_upto_region 3 with fail
 obtain ⟨pb, hpb⟩ : ∃ b, w4.heap.size = b := ⟨_, rfl⟩
 generalize w4.alloc (.cells #[.int .i64 ke, .string te, .bool ne, .slice xoe xne xce, .slice yoe yne yce, .int .i64 ae, .slice poe pne pce, .slice qoe qne qce] 35) = w5 at *
 have HB5 := Lib.hid (HB4.out.trans (hb5.mono HB4.out.size))
 have HP5 := Lib.hid ((hb5.block _ (Array.getElem?_eq_some_iff.1 HP4.out).1).trans HP4.out)
 have HL5 := Lib.hid (HL4.out.keep hb5)
 have HM5 := Lib.hid (hl4.keep hb5)
 rw [hpb] at hn5 ⊢
 have HQ5 := Lib.hid hn5
 clear hb5 hn5 hl4 hpb HP4 HL4
 cases hsa : sndX D with
 | false =>
  have h2 : sndE D = 2 := by unfold sndE; rw [if_neg (by rw [hsa]; decide)]
  obtain rfl : res = false := HRES.out.symm.trans (by unfold samX; rw [hsa]; rfl)
  rw [h2]
  clear hsa h2
  go_wp2_with fail
  go_ret
  exact ⟨rfl, HB5.out⟩
 | true =>
  have h2 : sndE D = 0 := by unfold sndE; rw [if_pos hsa]
  rw [h2]
  cases hsb : sndX E with
  | false =>
   have h3 : sndE E = 2 := by unfold sndE; rw [if_neg (by rw [hsb]; decide)]
   obtain rfl : res = false := HRES.out.symm.trans (by unfold samX; rw [hsa, hsb]; rfl)
   rw [h3]
   clear hsa hsb h2 h3
   go_wp2_with fail
   go_ret
   exact ⟨rfl, HB5.out⟩
  | true =>
   have h3 : sndE E = 0 := by unfold sndE; rw [if_pos hsb]
   have HRS : Hid (res = sameS 100 (fltS [] [] D) (fltS [] [] E)) := Lib.hid (HRES.out.symm.trans (by unfold samX meanS; rw [hsa, hsb]; rfl))
   have hra : fltR D = fltS [] [] D := by unfold fltR; rw [if_pos hsa]
   have hrb : fltR E = fltS [] [] E := by unfold fltR; rw [if_pos hsb]
   have HLA := Lib.hid HL5.out
   have HLB := Lib.hid HM5.out
   rw [hra] at HLA
   rw [hrb] at HLB
   have HFL : Hid (lightS 100 (fltS [] [] D) = true) := Lib.hid (flt_light HLT.out _ _)
   rw [h3]
   clear hsa hsb h2 h3 hra hrb
   obtain ⟨c0, c1, c2, c3, c4, c5, c6, c7⟩ := rowS8 HP5.out
   obtain ⟨d0, d1, d2, d3, d4, d5, d6, d7⟩ := rowS8 HQ5.out
   go_wp2_with fail
   refine (exact_sx 100 (fltS [] [] D) (fltS [] [] E) HFL.out _ _ w5 HLA.out HLB.out).mono ?_
   rintro e w6 ⟨rfl, hb6⟩
   have HB6 := Lib.hid (HB5.out.trans (hb6.mono HB5.out.size))
   clear hb6 c0 c1 c2 c3 c4 c5 c6 c7 d0 d1 d2 d3 d4 d5 d6 d7
   go_wp2_with fail
   go_ret
   exact ⟨ret_bl HRS.out.symm, HB6.out⟩
end Go.Proofs.YtbfcbicbeagjkaaGreatDoor
