/- x -/
import Derived.Test.YtbfcbicbeagjkaaGreatDoorSxPsh
import Derived.Test.YtbfcbicbeagjkaaGreatDoorBase
namespace Go.Proofs.YtbfcbicbeagjkaaGreatDoor
open Go.RowKit
inductive Nz : Sx → Prop
 | mk {k : Int} {t : ByteArray} {n : Bool} {r : List Nat} {l : List Sx} {a : Int} {m s : List Int} (hk : ∀ (i : Nat) (h : i < l.length), (l[i]'h).k ≠ 0) (hn : ∀ (i : Nat) (h : i < l.length), Nz (l[i]'h)) : Nz (.mk k t n r l a m s)
theorem psh_snd {m s : List Int} {D : Sx} (h : pshE m s D = 0) : sndX D = true ∧ (wjA m s D.m D.s).2.2 = 0 ∧ fltB [] [] (pshS m s D) = true ∧ sndX (pshS m s D) = true := by
 unfold pshE at h
 by_cases h1 : sndX D = true
 . rw [if_pos h1] at h
   by_cases h2 : (wjA m s D.m D.s).2.2 = 0
   . rw [if_pos h2] at h
     by_cases h3 : jnsB [] [] (pshS m s D) = true
     . have h4 : fltB [] [] (pshS m s D) = true := (jns_flt _ _ (Nat.le_refl _) sndW_nil).symm.trans h3
       exact ⟨h1, h2, h4, sndX_of h1 (pshS_dtm m s D) h4⟩
     . rw [if_neg h3] at h; cases h
   . rw [if_neg h2] at h; exact absurd h h2
 . rw [if_neg h1] at h; cases h
def isOx (D : Sx) : Value → World → Prop := fun v W => ∃ us, v = .agg us.toArray ∧ SLay W D us
theorem isOx_stays (D : Sx) : Stays (isOx D) := fun _ _ _ hb ⟨us, h1, h2⟩ => ⟨us, h1, h2.keep hb⟩
theorem reS_sms {m s : List Int} {D : Sx} {N : Nat} (h : SmS N D) (hm : m.length ≤ N) (hs : s.length ≤ N) : SmS N (reS m s D) := by
 cases h with
 | mk ht hr hl _ _ hin => exact .mk ht hr hl hm hs hin
theorem psh_sms {m s : List Int} {D : Sx} {N : Nat} (h : SmS N D) (h0 : (wjA m s D.m D.s).2.2 = 0) (hN : 256 ≤ N) : SmS N (pshS m s D) := by
 have := sndW_len (wjA_sound h0).1
 exact reS_sms h (by omega) (by omega)
theorem wjA_len (m s n t : List Int) : (wjA m s n t).1.length ≤ 256 ∧ (wjA m s n t).2.1.length ≤ 256 := by
 cases h1 : sndW m s && sndW n t with
 | false => rw [joinA_bad h1]; simp
 | true =>
  rw [Bool.and_eq_true] at h1
  rw [joinA_ok h1.1 h1.2]
  generalize marryA (endB m s && begB n t) m s n t = x
  cases h2 : lrgB x.1 x.2 with
  | true => rw [closeA_large h2]; simp
  | false =>
   cases h3 : sndS x.1 x.2 with
   | false => rw [closeA_bad h2 h3]; simp
   | true =>
    rw [closeA_ok h2 h3]
    unfold lrgB at h2
    simp at h2
    exact h2
theorem opn_sms {D : Sx} {N : Nat} (h : SmS N D) (hN : 256 ≤ N) : SmS N (opnS D) := by
 by_cases hk : 1 ≤ D.k ∧ D.k ≤ 3
 . obtain ⟨k, t, n, r, l, a, m, s⟩ := D
   rw [opnS_yes (show 1 ≤ k ∧ k ≤ 3 from hk)]
   cases h with
   | mk ht hr hl hm hs hin =>
    refine .mk ht hr (by simpa using hl) (by simp) (by simp) fun i hi => ?_
    rw [List.getElem_map]
    have := wjA_len m s (l[i]'(by simpa using hi)).m (l[i]'(by simpa using hi)).s
    exact reS_sms (hin i (by simpa using hi)) (by omega) (by omega)
 . rw [opnS_no hk]; exact h
theorem flt_sms {N : Nat} (hN : 256 ≤ N) : ∀ (n : Nat) (D : Sx), D.sz ≤ n → SmS N D → ∀ m s : List Int, SmS N (fltS m s D) := by
 intro n
 induction n with
 | zero => intro D h; have := D.sz_pos; omega
 | succ n ih =>
  intro D hz h m s
  obtain ⟨k, t, ng, r, l, a, dm, ds⟩ := D
  rw [fltS_mk]
  cases h with
  | mk ht hr hl hm hs hin =>
   have hw := wjA_len m s dm ds
   refine .mk ht hr (by simpa using hl) (by split; (· exact Nat.le_trans hw.1 hN); (· exact Nat.zero_le _)) (by split; (· exact Nat.le_trans hw.2 hN); (· exact Nat.zero_le _)) fun i hi => ?_
   rw [List.getElem_map]
   exact ih _ (by have := Sx.sz_mem (d := .mk k t ng r l a dm ds) (x := l[i]'(by simpa using hi)) (List.getElem_mem _); omega) (hin i (by simpa using hi)) _ _
theorem zero_sms (N : Nat) : SmS N zeroS := .mk (Nat.zero_le _) (Nat.zero_le _) (Nat.zero_le _) (Nat.zero_le _) (Nat.zero_le _) fun i hi => by cases hi
theorem pshR_sms {m s : List Int} {D : Sx} {N : Nat} (h : SmS N D) (hN : 256 ≤ N) : SmS N (pshR m s D) := by
 by_cases h0 : pshE m s D = 0
 . rw [pshR_ok h0]; exact psh_sms h (psh_snd h0).2.1 hN
 . rw [pshR_no h0]; exact zero_sms N
theorem opnR_sms {D : Sx} {N : Nat} (h : SmS N D) (hN : 256 ≤ N) : SmS N (opnR D) := by
 unfold opnR
 split
 . exact opn_sms h hN
 . exact zero_sms N
theorem fltR_sms {D : Sx} {N : Nat} (h : SmS N D) (hN : 256 ≤ N) : SmS N (fltR D) := by
 unfold fltR
 split
 . exact flt_sms hN _ D (Nat.le_refl _) h _ _
 . exact zero_sms N
end Go.Proofs.YtbfcbicbeagjkaaGreatDoor
