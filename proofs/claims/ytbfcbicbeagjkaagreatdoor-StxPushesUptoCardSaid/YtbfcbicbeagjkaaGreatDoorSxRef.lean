/- What a law's drawn region 'p, e := Push(Own(x), w)' leaves. No walk here. | A mark around a piece changes what its Symbols mean; to push two wraps means to push their join. No walk here. | ref09.Flat, Same, Push. -/
import Derived.Test.YtbfcbicbeagjkaaGreatDoorSxPsh
import Derived.Test.YtbfcbicbeagjkaaGreatDoorBase
import Derived.Test.YtbfcbicbeagjkaaGreatDoorSxPure
import Derived.Test.YtbfcbicbeagjkaaGreatDoorSxStr
import Derived.Test.YtbfcbicbeagjkaaGreatDoorDmOwnP
namespace Go.Proofs.YtbfcbicbeagjkaaGreatDoor
open Go.RowKit

/-- No piece in it is of kind 0. -/
inductive Nz : Sx → Prop
  | mk {k : Int} {t : ByteArray} {n : Bool} {r : List Nat} {l : List Sx} {a : Int} {m s : List Int} (hk : ∀ (i : Nat) (h : i < l.length), (l[i]'h).k ≠ 0) (hn : ∀ (i : Nat) (h : i < l.length), Nz (l[i]'h)) : Nz (.mk k t n r l a m s)
theorem Nz.open' {D : Sx} (h : Nz D) : (∀ (i : Nat) (h : i < D.l.length), (D.l[i]'h).k ≠ 0) ∧ ∀ (i : Nat) (h : i < D.l.length), Nz (D.l[i]'h) := by
  cases h with
  | mk hk hn => exact ⟨hk, hn⟩
theorem okD_kind {f : Nat} {D : Sx} (h : okD f (dtm D) = true) : D.k ≠ 0 := by
  cases f with
  | zero => cases h
  | succ f =>
    obtain ⟨k, t, n, r, l, a, m, s⟩ := D
    rw [dtm_mk] at h
    intro hk
    have hk : k = 0 := hk
    subst hk
    rw [okD_leaf (by omega) (by omega)] at h
    simp only [Bool.and_eq_true] at h
    have := h.1.1
    unfold wrtA at this
    simp at this
theorem okD_nz : ∀ (f : Nat) (D : Sx), okD f (dtm D) = true → Nz D := by
  intro f
  induction f with
  | zero => intro D h; cases h
  | succ f ih =>
    intro D h
    obtain ⟨k, t, n, r, l, a, m, s⟩ := D
    have hk := (okD_kids h).1
    exact .mk (fun i hi => okD_kind (hk _ (List.getElem_mem hi))) fun i hi => ih _ (hk _ (List.getElem_mem hi))
theorem nz_snd {D : Sx} (h : sndX D = true) : Nz D := okD_nz 64 D (sndX_parts h).1
theorem nz_zero : Nz zeroS := .mk (fun i hi => by cases hi) fun i hi => by cases hi
theorem psh_snd {m s : List Int} {D : Sx} (h : pshE m s D = 0) : sndX D = true ∧ (wjA m s D.m D.s).2.2 = 0 ∧ fltB [] [] (pshS m s D) = true ∧ sndX (pshS m s D) = true := by
  unfold pshE at h
  by_cases h1 : sndX D = true
  · rw [if_pos h1] at h
    by_cases h2 : (wjA m s D.m D.s).2.2 = 0
    · rw [if_pos h2] at h
      by_cases h3 : jnsB [] [] (pshS m s D) = true
      · have h4 : fltB [] [] (pshS m s D) = true := (jns_flt _ _ (Nat.le_refl _) sndW_nil).symm.trans h3
        exact ⟨h1, h2, h4, sndX_of h1 (pshS_dtm m s D) h4⟩
      · rw [if_neg h3] at h; cases h
    · rw [if_neg h2] at h; exact absurd h h2
  · rw [if_neg h1] at h; cases h
theorem nz_psh (m s : List Int) (D : Sx) : Nz (pshR m s D) := by
  by_cases h : pshE m s D = 0
  · rw [pshR_ok h]; exact nz_snd (psh_snd h).2.2.2
  · rw [pshR_no h]; exact nz_zero
theorem nth_zero {w : World} {S : Nat → Prop} {D : Sx} {us : List Value} (h : SOwn w S D us) (hz : us = zeroU) : D.k = 0 := by
  obtain ⟨k, t, n, r, l, a, m, s⟩ := D
  obtain ⟨_, _, _, _, _, _, he, _⟩ := h.row
  rw [hz] at he
  unfold zeroU at he
  simp only [List.cons.injEq, Value.int.injEq, true_and] at he
  exact he.1.symm
/-- A piece stays where a box of nothing is filled. -/
theorem sown_fill {w : World} {S : Nat → Prop} {D : Sx} {us : List Value} (h : SOwn w S D us) : Nz D → ∀ {g : Nat}, w.heap[g]? = some (.cells zeroU.toArray 35 (0, 0)) → ∀ (b0 b1 b2 b3 b4 b5 b6 b7 : Value), SLay (put8w w g b0 b1 b2 b3 b4 b5 b6 b7) D us := by
  induction h with
  | @mk S k t n r l a m s lv av mv sv us Fc ht hlim hr hl hm hs hrp hmp hsp hlp hsub hdis hin ih =>
    intro hz g hg b0 b1 b2 b3 b4 b5 b6 b7
    obtain ⟨hk, hn⟩ := hz.open'
    have hk : ∀ (i : Nat) (h : i < l.length), (l[i]'h).k ≠ 0 := hk
    have hn : ∀ (i : Nat) (h : i < l.length), Nz (l[i]'h) := hn
    have hkp : Keeps (fun b => b ≠ g) w (put8w w g b0 b1 b2 b3 b4 b5 b6 b7) := put8w_keep _ _ _ (by simp) _ _ _ _ _ _ _ _
    refine .mk ht hlim (RowV.of_own (ownsRow_keep hr hkp fun b hb => own_farT hr hg (by decide) b hb)) ?_ (RowV.of_own (ownsRow_keep hm hkp fun b hb => own_farT hm hg (by decide) b hb)) (RowV.of_own (ownsRow_keep hs hkp fun b hb => own_farT hs hg (by decide) b hb)) fun i hi => ih i hi (hn i hi) hg _ _ _ _ _ _ _ _
    by_cases hb : av.ownBlock = some g
    · have h0 : l.length = 0 := by
        apply Nat.eq_zero_of_not_pos
        intro hpos
        rcases hl.2 with ⟨e, _⟩ | ⟨b, cap, cur, e, _, hblk, hnc, _, hcz, htk⟩
        · rw [e] at hb; cases hb
        · rw [e] at hb
          simp only [Value.ownBlock, Option.some.injEq] at hb
          subst hb
          rw [hg] at hblk
          injection hblk with hblk
          injection hblk with hblk
          subst hblk
          have hc8 : zeroU.toArray.size = 8 := rfl
          have hcap : cap = 1 := by omega
          have hl1 : l.length = 1 := by omega
          refine hk 0 hpos (nth_zero (hin 0 hpos) ?_)
          rw [← htk, hl1]
          rfl
      have hrow := RowV.of_own hl
      obtain ⟨q1, q2, ao, cap, q3, q4, q5⟩ := hrow
      refine ⟨q1, q2, ao, cap, q3, q4, .inl ⟨h0, ?_⟩⟩
      rcases q5 with q5 | ⟨_, _, q5, _⟩
      · exact q5.2
      · rw [q5]; intro h; cases h
    · exact RowV.of_own (ownsRow_keep hl hkp fun b hb2 e => hb (e ▸ hb2))
/-- A piece, a piece with rows of its own, the answer of a call. -/
def isOx (D : Sx) : Value → World → Prop := fun v W => ∃ us, v = .agg us.toArray ∧ SLay W D us
theorem isOx_stays (D : Sx) : Stays (isOx D) := fun _ _ _ hb ⟨us, h1, h2⟩ => ⟨us, h1, h2.keep hb⟩
def isPs (D : Sx) : Value → World → Prop := fun v W => ∃ us, ∃ S : Nat → Prop, v = .agg us.toArray ∧ SOwn W S D us
theorem isPs_stays (D : Sx) : Stays (isPs D) := fun _ _ _ hb ⟨us, S, h1, h2⟩ => ⟨us, S, h1, h2.under hb⟩
def isRes (err : Int) (D : Sx) : Value → World → Prop := fun v W => ∃ us, ∃ S : Nat → Prop, v = .tuple #[.agg us.toArray, .int .i64 err] ∧ SOwn W S D us
theorem isRes_stays (err : Int) (D : Sx) : Stays (isRes err D) := fun _ _ _ hb ⟨us, S, h1, h2⟩ => ⟨us, S, h1, h2.under hb⟩
def FillsS : Value → Value → World → World → Prop := fun p v W0 W' => ∃ g u0 u1 u2 u3 u4 u5 u6 u7, p = .pointer (some ⟨g, 0, none⟩) ∧ v = .agg #[u0, u1, u2, u3, u4, u5, u6, u7] ∧ W' = put8w W0 g u0 u1 u2 u3 u4 u5 u6 u7
theorem fillsS_end {w1 W0 W' : World} {p v : Value} {D : Sx} (hC : Below w1.heap.size w1 W0) (hF : FillsS p v W0 W') (hb : isBoxS w1.heap.size p W0) (hw : isPs D v W0) (hz : Nz D) : ∃ g, ∃ kx tx nx xo xn xc yo yn yc ax po pn pc qo qn qc, p = .pointer (some ⟨g, 0, none⟩) ∧ v = .agg #[.int .i64 kx, .string tx, .bool nx, .slice xo xn xc, .slice yo yn yc, .int .i64 ax, .slice po pn pc, .slice qo qn qc] ∧ w1.heap.size ≤ g ∧ W'.heap[g]? = some (.cells #[.int .i64 kx, .string tx, .bool nx, .slice xo xn xc, .slice yo yn yc, .int .i64 ax, .slice po pn pc, .slice qo qn qc] 35 (0, 0)) ∧ SLay W' D [.int .i64 kx, .string tx, .bool nx, .slice xo xn xc, .slice yo yn yc, .int .i64 ax, .slice po pn pc, .slice qo qn qc] ∧ Below w1.heap.size w1 W' := by
  obtain ⟨g, u0, u1, u2, u3, u4, u5, u6, u7, hp, hv, rfl⟩ := hF
  obtain ⟨g', hp', hge, hg⟩ := hb
  rw [hp] at hp'
  injection hp' with hp'
  injection hp' with hp'
  injection hp' with hp'
  subst hp'
  obtain ⟨us, S, hus, hso⟩ := hw
  rw [hv] at hus
  injection hus with hus
  obtain rfl : us = [u0, u1, u2, u3, u4, u5, u6, u7] := by simpa using (congrArg Array.toList hus).symm
  obtain ⟨kx, tx, nx, xo, xn, xc, yo, yn, yc, ax, po, pn, pc, qo, qn, qc, hsh⟩ := sx_shapes hso.lay
  have hly := sown_fill hso hz hg u0 u1 u2 u3 u4 u5 u6 u7
  have hrow := put8w_row hg u0 u1 u2 u3 u4 u5 u6 u7
  have hbl := put8w_below hC hge u0 u1 u2 u3 u4 u5 u6 u7
  simp only [List.cons.injEq, and_true] at hsh
  obtain ⟨rfl, rfl, rfl, rfl, rfl, rfl, rfl, rfl⟩ := hsh
  exact ⟨g, _, _, _, _, _, _, _, _, _, _, _, _, _, _, _, _, hp, hv, hge, hrow, hly, hbl⟩
theorem reS_sms {m s : List Int} {D : Sx} {N : Nat} (h : SmS N D) (hm : m.length ≤ N) (hs : s.length ≤ N) : SmS N (reS m s D) := by
  cases h with
  | mk ht hr hl _ _ hin => exact .mk ht hr hl hm hs hin
theorem psh_sms {m s : List Int} {D : Sx} {N : Nat} (h : SmS N D) (h0 : (wjA m s D.m D.s).2.2 = 0) (hN : 256 ≤ N) : SmS N (pshS m s D) := by
  have := sndW_len (wjA_sound h0).1
  exact reS_sms h (by omega) (by omega)
theorem wjA_len (m s n t : List Int) : (wjA m s n t).1.length ≤ 256 ∧ (wjA m s n t).2.1.length ≤ 256 := by
  cases h1 : sndW m s && sndW n t with
  | false => rw [joinA_bad h1]; simp
  | true =>
    rw [Bool.and_eq_true] at h1
    rw [joinA_ok h1.1 h1.2]
    generalize marryA (endB m s && begB n t) m s n t = x
    cases h2 : lrgB x.1 x.2 with
    | true => rw [closeA_large h2]; simp
    | false =>
      cases h3 : sndS x.1 x.2 with
      | false => rw [closeA_bad h2 h3]; simp
      | true =>
        rw [closeA_ok h2 h3]
        unfold lrgB at h2
        simp at h2
        exact h2
end Go.Proofs.YtbfcbicbeagjkaaGreatDoor
namespace Go.Proofs.YtbfcbicbeagjkaaGreatDoor
open Go.RowKit

end Go.Proofs.YtbfcbicbeagjkaaGreatDoor
namespace Go.Proofs.YtbfcbicbeagjkaaGreatDoor
open Go.RowKit

/-- The document's answer: a piece, and an error. -/
def RsR (err : Int) (E : Sx) (w : World) (e : Ending) (w' : World) : Prop := ∃ kx tx nx xo xn xc yo yn yc ax po pn pc qo qn qc, e = .returned (.tuple #[.agg #[.int .i64 kx, .string tx, .bool nx, .slice xo xn xc, .slice yo yn yc, .int .i64 ax, .slice po pn pc, .slice qo qn qc], .int .i64 err]) ∧ SLay w' E [.int .i64 kx, .string tx, .bool nx, .slice xo xn xc, .slice yo yn yc, .int .i64 ax, .slice po pn pc, .slice qo qn qc] ∧ Below w.heap.size w w'
theorem slay_zero (w : World) : SLay w zeroS [.int .i64 0, .string ⟨#[]⟩, .bool false, .slice none 0 0, .slice none 0 0, .int .i64 0, .slice none 0 0, .slice none 0 0] := (sown_zero (fun _ => True) w).lay
theorem SLay.re {w : World} {D : Sx} {a0 a1 a2 a3 a4 a5 a6 a7 mv sv : Value} {m s : List Int} (h : SLay w D [a0, a1, a2, a3, a4, a5, a6, a7]) (hm : Iz w mv m) (hs : Iz w sv s) : SLay w (reS m s D) [a0, a1, a2, a3, a4, a5, mv, sv] := by
  cases h with
  | mk ht hlim hr hrow _ _ hin => exact .mk ht hlim hr hrow hm hs hin
theorem Iz.movP {w w' : World} {v : Value} {zs : List Int} {P : Nat → Prop} (h : Iz w v zs) (hp : ∀ b, v.ownBlock = some b → P b) (hk : Keeps P w w') : Iz w' v zs := RowV.move h (fun b _ hb => hp b hb) hk
theorem snd_psh {m s : List Int} {D : Sx} (h : sndX D = true) : sndX (pshS m s D) = jnsB [] [] (pshS m s D) := by
  unfold sndX at h ⊢
  rw [pshS_dtm]
  simp only [Bool.and_eq_true] at h
  rw [h.1, h.2.1, Bool.true_and, Bool.true_and]

theorem light_map {f : Nat} {g : Sx → Sx} {l : List Sx} (h : ∀ (j : Nat) (hj : j < l.length), lightS f (l[j]'hj) = true) (hg : ∀ d, lightS f d = true → lightS f (g d) = true) : ∀ (j : Nat) (hj : j < (l.map g).length), lightS f ((l.map g)[j]'hj) = true := by
  intro j hj
  rw [List.getElem_map]
  exact hg _ (h j (by simpa using hj))
theorem flt_light : ∀ {f : Nat} {D : Sx}, lightS f D = true → ∀ m s : List Int, lightS f (fltS m s D) = true := by
  intro f
  induction f with
  | zero => intro D h; cases h
  | succ f ih =>
    intro D h m s
    obtain ⟨k, t, n, r, l, a, dm, ds⟩ := D
    obtain ⟨h1, h2, h3, h4⟩ := lightS_mem h
    have h1' : l.length ≤ 300 := h1
    rw [fltS_mk]
    have hw := wjA_len m s dm ds
    refine lightS_yes ?_ ?_ ?_ (light_map h4 fun d hd => ih hd _ _)
    · show (l.map _).length ≤ 300
      rw [List.length_map]
      exact h1'
    · show (if k = 4 then _ else _ : List Int).length ≤ 600
      split
      · omega
      · exact Nat.zero_le _
    · show (if k = 4 then _ else _ : List Int).length ≤ 600
      split
      · omega
      · exact Nat.zero_le _
theorem re_light {f : Nat} {D : Sx} {m s : List Int} (h : lightS f D = true) (hm : m.length ≤ 600) (hs : s.length ≤ 600) : lightS f (reS m s D) = true := by
  cases f with
  | zero => cases h
  | succ f =>
    obtain ⟨k, t, n, r, l, a, dm, ds⟩ := D
    obtain ⟨h1, _, _, h4⟩ := lightS_mem h
    exact lightS_yes h1 hm hs h4
theorem psh_light {f : Nat} {D : Sx} {m s : List Int} (h : lightS f D = true) : lightS f (pshS m s D) = true := by
  have hw := wjA_len m s D.m D.s
  exact re_light h (by omega) (by omega)
theorem opn_light {f : Nat} {D : Sx} (h : lightS f D = true) : lightS f (opnS D) = true := by
  by_cases hk : 1 ≤ D.k ∧ D.k ≤ 3
  · cases f with
    | zero => cases h
    | succ f =>
      obtain ⟨k, t, n, r, l, a, dm, ds⟩ := D
      rw [opnS_yes (show 1 ≤ k ∧ k ≤ 3 from hk)]
      obtain ⟨h1, _, _, h4⟩ := lightS_mem h
      have h1' : l.length ≤ 300 := h1
      refine lightS_yes ?_ (Nat.zero_le _) (Nat.zero_le _) (light_map h4 fun d hd => psh_light hd)
      show (l.map _).length ≤ 300
      rw [List.length_map]
      exact h1'
  · rw [opnS_no hk]; exact h

set_option maxRecDepth 100000 in
set_option maxHeartbeats 8000000 in
/-- ref09.Flat. -/
theorem rflat_any (D : Sx) (us : List Value) (w : World) (hd : SLay w D us) (hsm : SmS 1100000 D) :
    Calls Tryz.prog 29 #[.agg us.toArray] w (RsR (sndE D) (fltR D) w) := by
  have HD := Lib.hid hd
  have HSM := Lib.hid hsm
  have HLP := Lib.hid hd.layP
  obtain ⟨kx, tx, nx, xo, xn, xc, yo, yn, yc, ax, po, pn, pc, qo, qn, qc, rfl⟩ := sx_shapes hd
  clear hd hsm
  obtain ⟨er, HER⟩ : ∃ x, Hid (sndE D = x) := ⟨_, Lib.hid rfl⟩
  obtain ⟨E, HRE⟩ : ∃ x, Hid (fltR D = x) := ⟨_, Lib.hid rfl⟩
  rw [HER.out, HRE.out]
  have hb1 := below2 w (.cells #[.int .i64 kx, .string tx, .bool nx, .slice xo xn xc, .slice yo yn yc, .int .i64 ax, .slice po pn pc, .slice qo qn qc] 35) (.cells #[.int .i64 0, .string ⟨#[]⟩, .bool false, .slice none 0 0, .slice none 0 0, .int .i64 0, .slice none 0 0, .slice none 0 0] 35)
  have hn1 := @newsd2 w (.cells #[.int .i64 kx, .string tx, .bool nx, .slice xo xn xc, .slice yo yn yc, .int .i64 ax, .slice po pn pc, .slice qo qn qc] 35) (.cells #[.int .i64 0, .string ⟨#[]⟩, .bool false, .slice none 0 0, .slice none 0 0, .int .i64 0, .slice none 0 0, .slice none 0 0] 35)
  show Calls Tryz.prog 29 #[.agg #[.int .i64 kx, .string tx, .bool nx, .slice xo xn xc, .slice yo yn yc, .int .i64 ax, .slice po pn pc, .slice qo qn qc]] w _
  go_enter Tryz.func29, Tryz.ntmps29
  go_upto_region 1 with fail
  generalize (w.alloc (.cells #[.int .i64 kx, .string tx, .bool nx, .slice xo xn xc, .slice yo yn yc, .int .i64 ax, .slice po pn pc, .slice qo qn qc] 35)).alloc (.cells #[.int .i64 0, .string ⟨#[]⟩, .bool false, .slice none 0 0, .slice none 0 0, .int .i64 0, .slice none 0 0, .slice none 0 0] 35) = w1 at *
  have HB1 := Lib.hid hb1
  have HX1 := Lib.hid hn1.1
  have HZ1 := Lib.hid hn1.2
  clear hb1 hn1
  obtain ⟨c0, c1, c2, c3, c4, c5, c6, c7⟩ := rowS8 HX1.out
  go_wp2_with fail
  refine (rxsound_any D _ w1 (HD.out.keep HB1.out) HSM.out).mono ?_
  rintro e w2 ⟨rfl, hb2⟩
  have HB2 := Lib.hid (HB1.out.trans (hb2.mono HB1.out.size))
  have HX2 := Lib.hid ((hb2.block _ (Array.getElem?_eq_some_iff.1 HX1.out).1).trans HX1.out)
  have HZ2 := Lib.hid ((hb2.block _ (Array.getElem?_eq_some_iff.1 HZ1.out).1).trans HZ1.out)
  clear hb2 HB1 HX1 HZ1 c0 c1 c2 c3 c4 c5 c6 c7
  cases hs : sndX D with
  | false =>
    obtain rfl : er = 2 := HER.out.symm.trans (by unfold sndE; rw [if_neg (by rw [hs]; decide)])
    obtain rfl : E = zeroS := HRE.out.symm.trans (by unfold fltR; rw [if_neg (by rw [hs]; decide)])
    clear hs
    have hz := HZ2.out
    obtain ⟨d0, d1, d2, d3, d4, d5, d6, d7⟩ := rowS8 hz
    have z0 := frozen_heap hz 0
    have z1 := frozen_heap hz 1
    have z2 := frozen_heap hz 2
    have z3 := frozen_heap hz 3
    have z4 := frozen_heap hz 4
    have z5 := frozen_heap hz 5
    have z6 := frozen_heap hz 6
    have z7 := frozen_heap hz 7
    have hrow := put8w_row hz (.int .i64 0) (.string ⟨#[]⟩) (.bool false) (.slice none 0 0) (.slice none 0 0) (.int .i64 0) (.slice none 0 0) (.slice none 0 0)
    have hbf := put8w_below HB2.out (show w.heap.size ≤ w.heap.size + 1 by omega) (.int .i64 0) (.string ⟨#[]⟩) (.bool false) (.slice none 0 0) (.slice none 0 0) (.int .i64 0) (.slice none 0 0) (.slice none 0 0)
    have HF9 := Lib.hid (And.intro hrow hbf)
    clear hrow hbf hz
    go_wp2_with fail
    clear d0 d1 d2 d3 d4 d5 d6 d7 z0 z1 z2 z3 z4 z5 z6 z7
    unfold put8w at HF9
    generalize World.setCell _ ⟨w.heap.size + 1, 7, none⟩ (.slice none 0 0) = W9 at *
    obtain ⟨g0, g1, g2, g3, g4, g5, g6, g7⟩ := rowS8 HF9.out.1
    refine bodyPost_ret (v := .tuple #[.agg #[.int .i64 0, .string ⟨#[]⟩, .bool false, .slice none 0 0, .slice none 0 0, .int .i64 0, .slice none 0 0, .slice none 0 0], .int .i64 2]) (by simp [results, Tryz.results29, go_sem, g0, g1, g2, g3, g4, g5, g6, g7]) rfl ?_

    exact ⟨_, _, _, _, _, _, _, _, _, _, _, _, _, _, _, _, rfl, slay_zero _, HF9.out.2⟩
  | true =>
    obtain rfl : er = 0 := HER.out.symm.trans (by unfold sndE; rw [if_pos hs])
    obtain rfl : E = fltS [] [] D := HRE.out.symm.trans (by unfold fltR; rw [if_pos hs])
    have HFB := Lib.hid (sndX_parts hs).2
    clear hs HER HRE
    obtain ⟨c0, c1, c2, c3, c4, c5, c6, c7⟩ := rowS8 HX2.out
    go_wp2_with fail
    refine (sflat_any D.sz D (Nat.le_refl _) HSM.out w.heap.size _ w2 (.slice none 0 0) (.slice none 0 0) [] [] (HLP.out.move (Keeps.of_below HB2.out)) HB2.out.size (Iz.nil _) (Iz.nil _)).mono ?_
    rintro e w3 ⟨⟨kb, tb, nb, xob, xnb, xcb, yob, ynb, ycb, ab, pob, pnb, pcb, qob, qnb, qcb, rfl, hyes⟩, hb3⟩
    have HLY := Lib.hid (hyes HFB.out)
    have HB3 := Lib.hid (HB2.out.trans (hb3.mono HB2.out.size))
    have HZ3 := Lib.hid ((hb3.block _ (Array.getElem?_eq_some_iff.1 HZ2.out).1).trans HZ2.out)
    have HLE : Hid (w.heap.size + 2 ≤ w2.heap.size) := Lib.hid (Array.getElem?_eq_some_iff.1 HZ2.out).1
    clear hb3 hyes c0 c1 c2 c3 c4 c5 c6 c7 HX2 HZ2
    have hb4 := below1 w3 (.cells #[.int .i64 kb, .string tb, .bool nb, .slice xob xnb xcb, .slice yob ynb ycb, .int .i64 ab, .slice pob pnb pcb, .slice qob qnb qcb] 35)
    have hn4 := heap_alloc_new w3 (.cells #[.int .i64 kb, .string tb, .bool nb, .slice xob xnb xcb, .slice yob ynb ycb, .int .i64 ab, .slice pob pnb pcb, .slice qob qnb qcb] 35)
    go_upto_region 4 with fail
    generalize hww : w3.alloc (.cells #[.int .i64 kb, .string tb, .bool nb, .slice xob xnb xcb, .slice yob ynb ycb, .int .i64 ab, .slice pob pnb pcb, .slice qob qnb qcb] 35) = w4 at *
    have HB4 := Lib.hid (HB3.out.trans (hb4.mono HB3.out.size))
    have HX4 := Lib.hid hn4
    have HZ4 := Lib.hid ((hb4.block _ (Array.getElem?_eq_some_iff.1 HZ3.out).1).trans HZ3.out)
    have HL4 := Lib.hid (HLY.out.move (Keeps.of_below hb4))
    clear hb4 hn4 hww HLY HZ3
    obtain ⟨e0, e1, e2, e3, e4, e5, e6, e7⟩ := rowS8 HX4.out
    have hz := HZ4.out
    obtain ⟨d0, d1, d2, d3, d4, d5, d6, d7⟩ := rowS8 hz
    have z0 := frozen_heap hz 0
    have z1 := frozen_heap hz 1
    have z2 := frozen_heap hz 2
    have z3 := frozen_heap hz 3
    have z4 := frozen_heap hz 4
    have z5 := frozen_heap hz 5
    have z6 := frozen_heap hz 6
    have z7 := frozen_heap hz 7
    have hrow := put8w_row hz (.int .i64 kb) (.string tb) (.bool nb) (.slice xob xnb xcb) (.slice yob ynb ycb) (.int .i64 ab) (.slice pob pnb pcb) (.slice qob qnb qcb)
    have hkf := put8w_keep (fun b => b ≠ w.heap.size + 1) w4 (w.heap.size + 1) (by simp) (.int .i64 kb) (.string tb) (.bool nb) (.slice xob xnb xcb) (.slice yob ynb ycb) (.int .i64 ab) (.slice pob pnb pcb) (.slice qob qnb qcb)
    have hbf := put8w_below HB4.out (show w.heap.size ≤ w.heap.size + 1 by omega) (.int .i64 kb) (.string tb) (.bool nb) (.slice xob xnb xcb) (.slice yob ynb ycb) (.int .i64 ab) (.slice pob pnb pcb) (.slice qob qnb qcb)
    have HF9 := Lib.hid (And.intro hrow (And.intro hkf hbf))
    clear hrow hkf hbf hz
    go_wp2_with fail
    clear e0 e1 e2 e3 e4 e5 e6 e7 d0 d1 d2 d3 d4 d5 d6 d7 z0 z1 z2 z3 z4 z5 z6 z7
    unfold put8w at HF9
    generalize World.setCell _ ⟨w.heap.size + 1, 7, none⟩ (.slice qob qnb qcb) = W9 at *
    obtain ⟨g0, g1, g2, g3, g4, g5, g6, g7⟩ := rowS8 HF9.out.1
    refine bodyPost_ret (v := .tuple #[.agg #[.int .i64 kb, .string tb, .bool nb, .slice xob xnb xcb, .slice yob ynb ycb, .int .i64 ab, .slice pob pnb pcb, .slice qob qnb qcb], .int .i64 0]) (by simp [results, Tryz.results29, go_sem, g0, g1, g2, g3, g4, g5, g6, g7]) rfl ?_

    have hle := HLE.out
    exact ⟨_, _, _, _, _, _, _, _, _, _, _, _, _, _, _, _, rfl, (HL4.out.move (HF9.out.2.1.mono fun b _ hb => by omega)).lay, HF9.out.2.2⟩

end Go.Proofs.YtbfcbicbeagjkaaGreatDoor
