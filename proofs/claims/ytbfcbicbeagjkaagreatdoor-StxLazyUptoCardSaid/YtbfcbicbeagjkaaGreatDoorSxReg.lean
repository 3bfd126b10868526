/- What a law's drawn region 'p, e := Push(Own(x), w)' leaves. No walk here. -/
import Derived.Test.YtbfcbicbeagjkaaGreatDoorSxPsh
import Derived.Test.YtbfcbicbeagjkaaGreatDoorBase
namespace Go.Proofs.YtbfcbicbeagjkaaGreatDoor
open Go.RowKit

/-- No piece in it is of kind 0. -/
inductive Nz : Sx → Prop
  | mk {k : Int} {t : ByteArray} {n : Bool} {r : List Nat} {l : List Sx} {a : Int} {m s : List Int} (hk : ∀ (i : Nat) (h : i < l.length), (l[i]'h).k ≠ 0) (hn : ∀ (i : Nat) (h : i < l.length), Nz (l[i]'h)) : Nz (.mk k t n r l a m s)
theorem Nz.open' {D : Sx} (h : Nz D) : (∀ (i : Nat) (h : i < D.l.length), (D.l[i]'h).k ≠ 0) ∧ ∀ (i : Nat) (h : i < D.l.length), Nz (D.l[i]'h) := by
  cases h with
  | mk hk hn => exact ⟨hk, hn⟩
theorem okD_kind {f : Nat} {D : Sx} (h : okD f (dtm D) = true) : D.k ≠ 0 := by
  cases f with
  | zero => cases h
  | succ f =>
    obtain ⟨k, t, n, r, l, a, m, s⟩ := D
    rw [dtm_mk] at h
    intro hk
    have hk : k = 0 := hk
    subst hk
    rw [okD_leaf (by omega) (by omega)] at h
    simp only [Bool.and_eq_true] at h
    have := h.1.1
    unfold wrtA at this
    simp at this
theorem okD_nz : ∀ (f : Nat) (D : Sx), okD f (dtm D) = true → Nz D := by
  intro f
  induction f with
  | zero => intro D h; cases h
  | succ f ih =>
    intro D h
    obtain ⟨k, t, n, r, l, a, m, s⟩ := D
    have hk := (okD_kids h).1
    exact .mk (fun i hi => okD_kind (hk _ (List.getElem_mem hi))) fun i hi => ih _ (hk _ (List.getElem_mem hi))
theorem nz_snd {D : Sx} (h : sndX D = true) : Nz D := okD_nz 64 D (sndX_parts h).1
theorem nz_zero : Nz zeroS := .mk (fun i hi => by cases hi) fun i hi => by cases hi
theorem psh_snd {m s : List Int} {D : Sx} (h : pshE m s D = 0) : sndX D = true ∧ (wjA m s D.m D.s).2.2 = 0 ∧ fltB [] [] (pshS m s D) = true ∧ sndX (pshS m s D) = true := by
  unfold pshE at h
  by_cases h1 : sndX D = true
  · rw [if_pos h1] at h
    by_cases h2 : (wjA m s D.m D.s).2.2 = 0
    · rw [if_pos h2] at h
      by_cases h3 : jnsB [] [] (pshS m s D) = true
      · have h4 : fltB [] [] (pshS m s D) = true := (jns_flt _ _ (Nat.le_refl _) sndW_nil).symm.trans h3
        exact ⟨h1, h2, h4, sndX_of h1 (pshS_dtm m s D) h4⟩
      · rw [if_neg h3] at h; cases h
    · rw [if_neg h2] at h; exact absurd h h2
  · rw [if_neg h1] at h; cases h
theorem nz_psh (m s : List Int) (D : Sx) : Nz (pshR m s D) := by
  by_cases h : pshE m s D = 0
  · rw [pshR_ok h]; exact nz_snd (psh_snd h).2.2.2
  · rw [pshR_no h]; exact nz_zero
theorem nth_zero {w : World} {S : Nat → Prop} {D : Sx} {us : List Value} (h : SOwn w S D us) (hz : us = zeroU) : D.k = 0 := by
  obtain ⟨k, t, n, r, l, a, m, s⟩ := D
  obtain ⟨_, _, _, _, _, _, he, _⟩ := h.row
  rw [hz] at he
  unfold zeroU at he
  simp only [List.cons.injEq, Value.int.injEq, true_and] at he
  exact he.1.symm
/-- A piece stays where a box of nothing is filled. -/
theorem sown_fill {w : World} {S : Nat → Prop} {D : Sx} {us : List Value} (h : SOwn w S D us) : Nz D → ∀ {g : Nat}, w.heap[g]? = some (.cells zeroU.toArray 35 (0, 0)) → ∀ (b0 b1 b2 b3 b4 b5 b6 b7 : Value), SLay (put8w w g b0 b1 b2 b3 b4 b5 b6 b7) D us := by
  induction h with
  | @mk S k t n r l a m s lv av mv sv us Fc ht hlim hr hl hm hs hrp hmp hsp hlp hsub hdis hin ih =>
    intro hz g hg b0 b1 b2 b3 b4 b5 b6 b7
    obtain ⟨hk, hn⟩ := hz.open'
    have hk : ∀ (i : Nat) (h : i < l.length), (l[i]'h).k ≠ 0 := hk
    have hn : ∀ (i : Nat) (h : i < l.length), Nz (l[i]'h) := hn
    have hkp : Keeps (fun b => b ≠ g) w (put8w w g b0 b1 b2 b3 b4 b5 b6 b7) := put8w_keep _ _ _ (by simp) _ _ _ _ _ _ _ _
    refine .mk ht hlim (RowV.of_own (ownsRow_keep hr hkp fun b hb => own_farT hr hg (by decide) b hb)) ?_ (RowV.of_own (ownsRow_keep hm hkp fun b hb => own_farT hm hg (by decide) b hb)) (RowV.of_own (ownsRow_keep hs hkp fun b hb => own_farT hs hg (by decide) b hb)) fun i hi => ih i hi (hn i hi) hg _ _ _ _ _ _ _ _
    by_cases hb : av.ownBlock = some g
    · have h0 : l.length = 0 := by
        apply Nat.eq_zero_of_not_pos
        intro hpos
        rcases hl.2 with ⟨e, _⟩ | ⟨b, cap, cur, e, _, hblk, hnc, _, hcz, htk⟩
        · rw [e] at hb; cases hb
        · rw [e] at hb
          simp only [Value.ownBlock, Option.some.injEq] at hb
          subst hb
          rw [hg] at hblk
          injection hblk with hblk
          injection hblk with hblk
          subst hblk
          have hc8 : zeroU.toArray.size = 8 := rfl
          have hcap : cap = 1 := by omega
          have hl1 : l.length = 1 := by omega
          refine hk 0 hpos (nth_zero (hin 0 hpos) ?_)
          rw [← htk, hl1]
          rfl
      have hrow := RowV.of_own hl
      obtain ⟨q1, q2, ao, cap, q3, q4, q5⟩ := hrow
      refine ⟨q1, q2, ao, cap, q3, q4, .inl ⟨h0, ?_⟩⟩
      rcases q5 with q5 | ⟨_, _, q5, _⟩
      · exact q5.2
      · rw [q5]; intro h; cases h
    · exact RowV.of_own (ownsRow_keep hl hkp fun b hb2 e => hb (e ▸ hb2))
/-- A piece, a piece with rows of its own, the answer of a call. -/
def isOx (D : Sx) : Value → World → Prop := fun v W => ∃ us, v = .agg us.toArray ∧ SLay W D us
theorem isOx_stays (D : Sx) : Stays (isOx D) := fun _ _ _ hb ⟨us, h1, h2⟩ => ⟨us, h1, h2.keep hb⟩
def isPs (D : Sx) : Value → World → Prop := fun v W => ∃ us, ∃ S : Nat → Prop, v = .agg us.toArray ∧ SOwn W S D us
theorem isPs_stays (D : Sx) : Stays (isPs D) := fun _ _ _ hb ⟨us, S, h1, h2⟩ => ⟨us, S, h1, h2.under hb⟩
def isRes (err : Int) (D : Sx) : Value → World → Prop := fun v W => ∃ us, ∃ S : Nat → Prop, v = .tuple #[.agg us.toArray, .int .i64 err] ∧ SOwn W S D us
theorem isRes_stays (err : Int) (D : Sx) : Stays (isRes err D) := fun _ _ _ hb ⟨us, S, h1, h2⟩ => ⟨us, S, h1, h2.under hb⟩
def FillsS : Value → Value → World → World → Prop := fun p v W0 W' => ∃ g u0 u1 u2 u3 u4 u5 u6 u7, p = .pointer (some ⟨g, 0, none⟩) ∧ v = .agg #[u0, u1, u2, u3, u4, u5, u6, u7] ∧ W' = put8w W0 g u0 u1 u2 u3 u4 u5 u6 u7
theorem fillsS_end {w1 W0 W' : World} {p v : Value} {D : Sx} (hC : Below w1.heap.size w1 W0) (hF : FillsS p v W0 W') (hb : isBoxS w1.heap.size p W0) (hw : isPs D v W0) (hz : Nz D) : ∃ g, ∃ kx tx nx xo xn xc yo yn yc ax po pn pc qo qn qc, p = .pointer (some ⟨g, 0, none⟩) ∧ v = .agg #[.int .i64 kx, .string tx, .bool nx, .slice xo xn xc, .slice yo yn yc, .int .i64 ax, .slice po pn pc, .slice qo qn qc] ∧ w1.heap.size ≤ g ∧ W'.heap[g]? = some (.cells #[.int .i64 kx, .string tx, .bool nx, .slice xo xn xc, .slice yo yn yc, .int .i64 ax, .slice po pn pc, .slice qo qn qc] 35 (0, 0)) ∧ SLay W' D [.int .i64 kx, .string tx, .bool nx, .slice xo xn xc, .slice yo yn yc, .int .i64 ax, .slice po pn pc, .slice qo qn qc] ∧ Below w1.heap.size w1 W' := by
  obtain ⟨g, u0, u1, u2, u3, u4, u5, u6, u7, hp, hv, rfl⟩ := hF
  obtain ⟨g', hp', hge, hg⟩ := hb
  rw [hp] at hp'
  injection hp' with hp'
  injection hp' with hp'
  injection hp' with hp'
  subst hp'
  obtain ⟨us, S, hus, hso⟩ := hw
  rw [hv] at hus
  injection hus with hus
  obtain rfl : us = [u0, u1, u2, u3, u4, u5, u6, u7] := by simpa using (congrArg Array.toList hus).symm
  obtain ⟨kx, tx, nx, xo, xn, xc, yo, yn, yc, ax, po, pn, pc, qo, qn, qc, hsh⟩ := sx_shapes hso.lay
  have hly := sown_fill hso hz hg u0 u1 u2 u3 u4 u5 u6 u7
  have hrow := put8w_row hg u0 u1 u2 u3 u4 u5 u6 u7
  have hbl := put8w_below hC hge u0 u1 u2 u3 u4 u5 u6 u7
  simp only [List.cons.injEq, and_true] at hsh
  obtain ⟨rfl, rfl, rfl, rfl, rfl, rfl, rfl, rfl⟩ := hsh
  exact ⟨g, _, _, _, _, _, _, _, _, _, _, _, _, _, _, _, _, hp, hv, hge, hrow, hly, hbl⟩
theorem reS_sms {m s : List Int} {D : Sx} {N : Nat} (h : SmS N D) (hm : m.length ≤ N) (hs : s.length ≤ N) : SmS N (reS m s D) := by
  cases h with
  | mk ht hr hl _ _ hin => exact .mk ht hr hl hm hs hin
theorem psh_sms {m s : List Int} {D : Sx} {N : Nat} (h : SmS N D) (h0 : (wjA m s D.m D.s).2.2 = 0) (hN : 256 ≤ N) : SmS N (pshS m s D) := by
  have := sndW_len (wjA_sound h0).1
  exact reS_sms h (by omega) (by omega)
theorem wjA_len (m s n t : List Int) : (wjA m s n t).1.length ≤ 256 ∧ (wjA m s n t).2.1.length ≤ 256 := by
  cases h1 : sndW m s && sndW n t with
  | false => rw [joinA_bad h1]; simp
  | true =>
    rw [Bool.and_eq_true] at h1
    rw [joinA_ok h1.1 h1.2]
    generalize marryA (endB m s && begB n t) m s n t = x
    cases h2 : lrgB x.1 x.2 with
    | true => rw [closeA_large h2]; simp
    | false =>
      cases h3 : sndS x.1 x.2 with
      | false => rw [closeA_bad h2 h3]; simp
      | true =>
        rw [closeA_ok h2 h3]
        unfold lrgB at h2
        simp at h2
        exact h2
theorem opn_sms {D : Sx} {N : Nat} (h : SmS N D) (hN : 256 ≤ N) : SmS N (opnS D) := by
  by_cases hk : 1 ≤ D.k ∧ D.k ≤ 3
  · obtain ⟨k, t, n, r, l, a, m, s⟩ := D
    rw [opnS_yes (show 1 ≤ k ∧ k ≤ 3 from hk)]
    cases h with
    | mk ht hr hl hm hs hin =>
      refine .mk ht hr (by simpa using hl) (by simp) (by simp) fun i hi => ?_
      rw [List.getElem_map]
      have := wjA_len m s (l[i]'(by simpa using hi)).m (l[i]'(by simpa using hi)).s
      exact reS_sms (hin i (by simpa using hi)) (by omega) (by omega)
  · rw [opnS_no hk]; exact h
theorem zero_sms (N : Nat) : SmS N zeroS := .mk (Nat.zero_le _) (Nat.zero_le _) (Nat.zero_le _) (Nat.zero_le _) (Nat.zero_le _) fun i hi => by cases hi
theorem pshR_sms {m s : List Int} {D : Sx} {N : Nat} (h : SmS N D) (hN : 256 ≤ N) : SmS N (pshR m s D) := by
  by_cases h0 : pshE m s D = 0
  · rw [pshR_ok h0]; exact psh_sms h (psh_snd h0).2.1 hN
  · rw [pshR_no h0]; exact zero_sms N
theorem opnR_sms {D : Sx} {N : Nat} (h : SmS N D) (hN : 256 ≤ N) : SmS N (opnR D) := by
  unfold opnR
  split
  · exact opn_sms h hN
  · exact zero_sms N
end Go.Proofs.YtbfcbicbeagjkaaGreatDoor
