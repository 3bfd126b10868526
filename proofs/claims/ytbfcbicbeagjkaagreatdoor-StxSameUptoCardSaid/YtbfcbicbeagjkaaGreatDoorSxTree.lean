/- x -/
import Derived.Test.YtbfcbicbeagjkaaGreatDoorSxMath
import Derived.Test.YtbfcbicbeagjkaaGreatDoorDmOwnP
import Derived.Test.YtbfcbicbeagjkaaGreatDoorWpAssoc
import Derived.Test.YtbfcbicbeagjkaaGreatDoorSxOwn
namespace Go.Proofs.YtbfcbicbeagjkaaGreatDoor
open Go.RowKit
theorem wjA_nl {m s : List Int} (h : sndW m s = true) : wjA [] [] m s = (m, s, 0) := by
 rw [joinA_ok sndW_nil h]
 have e : endB [] [] = false := by decide
 rw [e, Bool.false_and]
 have e2 : marryA false [] [] m s = (m, s) := by unfold marryA cutL cutF; simp
 rw [e2]
 refine closeA_ok ?_ (sndW_snd h)
 unfold sndW at h
 rw [Bool.and_eq_true] at h
 simpa using h.1
theorem wjA_self {m s n t : List Int} (h : (wjA m s n t).2.2 = 0) : wjA [] [] (wjA m s n t).1 (wjA m s n t).2.1 = wjA m s n t := by
 rw [wjA_nl (wjA_sound h).1]
 exact Prod.ext rfl (Prod.ext rfl h.symm)
def reS (m s : List Int) : Sx → Sx
 | .mk k t n r l a _ _ => .mk k t n r l a m s
theorem reS_dtm (m s : List Int) (D : Sx) : dtm (reS m s D) = dtm D := by cases D; unfold reS; rw [dtm_mk, dtm_mk]
def pshS (m s : List Int) (D : Sx) : Sx := reS (wjA m s D.m D.s).1 (wjA m s D.m D.s).2.1 D
def opnS (D : Sx) : Sx := if 1 ≤ D.k ∧ D.k ≤ 3 then .mk D.k D.t D.n D.r (D.l.map (pshS D.m D.s)) D.a [] [] else D
theorem opnS_yes {k : Int} {t : ByteArray} {n : Bool} {r : List Nat} {l : List Sx} {a : Int} {dm ds : List Int} (hk : 1 ≤ k ∧ k ≤ 3) : opnS (.mk k t n r l a dm ds) = .mk k t n r (l.map (pshS dm ds)) a [] [] := if_pos hk
theorem opnS_no {D : Sx} (hk : ¬ (1 ≤ D.k ∧ D.k ≤ 3)) : opnS D = D := if_neg hk
theorem pshS_dtm (m s : List Int) (D : Sx) : dtm (pshS m s D) = dtm D := reS_dtm _ _ D
theorem opnS_dtm (D : Sx) : dtm (opnS D) = dtm D := by
 unfold opnS
 split
 . rw [dtm_mk, dtm_eq D, List.map_map]
   congr 1
   exact List.map_congr_left fun x _ => pshS_dtm _ _ x
 . rfl
theorem fltB_iff {m s : List Int} {k : Int} {t : ByteArray} {n : Bool} {r : List Nat} {l : List Sx} {a : Int} {dm ds : List Int} : fltB m s (.mk k t n r l a dm ds) = true ↔ (wjA m s dm ds).2.2 = 0 ∧ ∀ x ∈ l, fltB (wjA m s dm ds).1 (wjA m s dm ds).2.1 x = true := by
 rw [fltB_mk, Bool.and_eq_true, List.all_eq_true, decide_eq_true_iff]
theorem flt_ctx {u v p q u' v' : List Int} {D : Sx} (h : wjA u v p q = wjA u' v' D.m D.s) : fltB u v (reS p q D) = fltB u' v' D ∧ fltS u v (reS p q D) = fltS u' v' D := by
 obtain ⟨k, t, n, r, l, a, dm, ds⟩ := D
 have h : wjA u v p q = wjA u' v' dm ds := h
 unfold reS
 rw [fltB_mk, fltB_mk, fltS_mk, fltS_mk, h]
 exact ⟨rfl, rfl⟩
theorem flt_psh {m s : List Int} {D : Sx} (h : (wjA m s D.m D.s).2.2 = 0) : fltB [] [] (pshS m s D) = fltB m s D ∧ fltS [] [] (pshS m s D) = fltS m s D := flt_ctx (wjA_self h)
theorem fltB_err {m s : List Int} {D : Sx} (h : fltB m s D = true) : (wjA m s D.m D.s).2.2 = 0 := by
 obtain ⟨k, t, n, r, l, a, dm, ds⟩ := D
 exact (fltB_iff.1 h).1
theorem opn_flt {D : Sx} (h : fltB [] [] D = true) : fltB [] [] (opnS D) = true ∧ fltS [] [] (opnS D) = fltS [] [] D := by
 obtain ⟨k, t, n, r, l, a, dm, ds⟩ := D
 by_cases hk : 1 ≤ k ∧ k ≤ 3
 . rw [opnS_yes hk]
   obtain ⟨h0, hl⟩ := fltB_iff.1 h
   have hw := (wjA_sound h0).2.2
   rw [wjA_nl hw] at hl
   have hl : ∀ x ∈ l, fltB dm ds x = true := hl
   have e0 : wjA [] [] ([] : List Int) [] = ([], [], 0) := wjA_nl sndW_nil
   have hc : ∀ x ∈ l, fltB [] [] (pshS dm ds x) = true ∧ fltS [] [] (pshS dm ds x) = fltS dm ds x := fun x hx => by
    have := flt_psh (fltB_err (hl x hx))
    exact ⟨this.1.trans (hl x hx), this.2⟩
   refine ⟨fltB_iff.2 ⟨by rw [e0], ?_⟩, ?_⟩
   . rw [e0]
     intro x hx
     obtain ⟨y, hy, rfl⟩ := List.mem_map.1 hx
     exact (hc y hy).1
   . rw [fltS_mk, fltS_mk, e0, wjA_nl hw, List.map_map]
     have hk4 : ¬ k = 4 := by omega
     simp only [if_neg hk4]
     congr 1
     exact List.map_congr_left fun x hx => (hc x hx).2
 . rw [opnS_no (D := .mk k t n r l a dm ds) hk]; exact ⟨h, rfl⟩
theorem fltS_dtm : ∀ (n : Nat) (D : Sx), D.sz ≤ n → ∀ m s : List Int, dtm (fltS m s D) = dtm D := by
 intro n
 induction n with
 | zero => intro D h; have := D.sz_pos; omega
 | succ n ih =>
  intro D h m s
  obtain ⟨k, t, ng, r, l, a, dm, ds⟩ := D
  rw [fltS_mk, dtm_mk, dtm_mk, List.map_map]
  congr 1
  exact List.map_congr_left fun x hx => ih x (by have := Sx.sz_mem (d := .mk k t ng r l a dm ds) hx; omega) _ _
theorem fltS_dt (m s : List Int) (D : Sx) : dtm (fltS m s D) = dtm D := fltS_dtm _ D (Nat.le_refl _) m s
theorem okD_kids {f : Nat} {k : Int} {t : ByteArray} {n : Bool} {r : List Nat} {l : List Sx} {a : Int} {m s : List Int} (h : okD (f + 1) (dtm (.mk k t n r l a m s)) = true) : (∀ x ∈ l, okD f (dtm x) = true) ∧ (k = 4 → l = []) := by
 rw [dtm_mk] at h
 refine ⟨fun x hx => okD_all h _ (List.mem_map_of_mem hx), fun hk => ?_⟩
 subst hk
 rw [okD_leaf (by omega) (by omega), Bool.and_eq_true] at h
 have := of_decide_eq_true h.2
 rw [List.length_map] at this
 exact List.eq_nil_of_length_eq_zero this
theorem okD_up : ∀ {f : Nat} {D : Dm}, okD f D = true → okD (f + 1) D = true := by
 intro f
 induction f with
 | zero => intro D h; cases h
 | succ f ih =>
  intro D h
  obtain ⟨k, t, n, r, l, a⟩ := D
  have ha := okD_all h
  by_cases hk : k = 1 ∨ k = 2 ∨ k = 3
  . rw [okD_node hk, Bool.and_eq_true] at h ⊢
    exact ⟨h.1, List.all_eq_true.2 fun x hx => ih (ha x hx)⟩
  . by_cases h7 : k = 7
    . subst h7
      rw [okD_int] at h ⊢; exact h
    . rw [okD_leaf hk h7] at h ⊢; exact h
theorem okD_le {f g : Nat} (hle : f ≤ g) {D : Dm} (h : okD f D = true) : okD g D = true := by
 induction hle with
 | refl => exact h
 | step _ ih => exact okD_up ih
theorem flt_idem : ∀ (f : Nat) (D : Sx), okD f (dtm D) = true → ∀ {m s : List Int}, fltB m s D = true → fltB [] [] (fltS m s D) = true ∧ fltS [] [] (fltS m s D) = fltS m s D := by
 intro f
 induction f with
 | zero => intro D h; cases h
 | succ f ih =>
  intro D h m s hb
  obtain ⟨k, t, n, r, l, a, dm, ds⟩ := D
  obtain ⟨h0, hl⟩ := fltB_iff.1 hb
  obtain ⟨hx, h4⟩ := okD_kids h
  rw [fltS_mk]
  by_cases hk : k = 4
  . obtain rfl := h4 hk
    simp only [if_pos hk]
    have e0 := wjA_nl (wjA_sound h0).1
    refine ⟨fltB_iff.2 ⟨by rw [e0], fun x hx => by cases hx⟩, ?_⟩
    rw [fltS_mk, e0]
    simp only [if_pos hk]
    rfl
  . simp only [if_neg hk]
    have e0 : wjA [] [] ([] : List Int) [] = ([], [], 0) := wjA_nl sndW_nil
    have hc := fun x (hm : x ∈ l) => ih x (hx x hm) (hl x hm)
    refine ⟨fltB_iff.2 ⟨by rw [e0], ?_⟩, ?_⟩
    . rw [e0]
      intro x hx
      obtain ⟨y, hy, rfl⟩ := List.mem_map.1 hx
      exact (hc y hy).1
    . rw [fltS_mk, e0, List.map_map]
      simp only [if_neg hk]
      congr 1
      exact List.map_congr_left fun x hm => (hc x hm).2
theorem sameS_refl : ∀ {f : Nat} {D : Sx}, dpB f D = true → sameS f D D = true := by
 intro f
 induction f with
 | zero => intro D h; cases h
 | succ f ih =>
  intro D h
  obtain ⟨k, t, n, r, l, a, m, s⟩ := D
  unfold dpB at h
  exact sameS_iff.2 ⟨rfl, rfl, ⟨rfl, rfl⟩, rfl, rfl, rfl, fun j hj _ => ih (List.all_eq_true.1 h _ (List.getElem_mem hj))⟩
theorem dpB_up : ∀ {f : Nat} {D : Sx}, dpB f D = true → dpB (f + 1) D = true := by
 intro f
 induction f with
 | zero => intro D h; cases h
 | succ f ih =>
  intro D h
  unfold dpB at h ⊢
  rw [List.all_eq_true] at h ⊢
  exact fun x hx => ih (h x hx)
theorem dpB_le {f g : Nat} (hle : f ≤ g) {D : Sx} (h : dpB f D = true) : dpB g D = true := by
 induction hle with
 | refl => exact h
 | step _ ih => exact dpB_up ih
theorem sameS_dtm : ∀ {f : Nat} {x y : Sx}, sameS f x y = true → sameA (dtm x) (dtm y) = true := by
 intro f
 induction f with
 | zero => intro x y h; cases h
 | succ f ih =>
  intro x y h
  obtain ⟨k, t, n, r, l, a, m, s⟩ := x
  obtain ⟨k', t', n', r', l', a', m', s'⟩ := y
  obtain ⟨h1, h2, h3, _, _, h6, h7⟩ := sameS_iff.1 h
  rw [dtm_mk, dtm_mk]
  refine same_parts h1 (by rw [h2]) h3 (by simp [h6]) fun j hj hj' => ?_
  simp only [List.length_map] at hj hj'
  rw [List.getElem_map, List.getElem_map]
  exact ih (h7 j hj hj')
def alkB : Nat → List Int → List Int → List Int → List Int → Sx → Sx → Bool
 | 0, _, _, _, _, _, _ => false
 | f + 1, m, s, m', s', x, y => if x.k = 4 then decide ((innA m s x.m x.s).1 = (innA m' s' y.m y.s).1 ∧ (innA m s x.m x.s).2.1 = (innA m' s' y.m y.s).2.1) else decide (x.l.length = y.l.length) && (List.range x.l.length).all fun i => match x.l[i]?, y.l[i]? with
  | some a, some b => alkB f (innA m s x.m x.s).1 (innA m s x.m x.s).2.1 (innA m' s' y.m y.s).1 (innA m' s' y.m y.s).2.1 a b
  | _, _ => false
theorem alkB_node {f : Nat} {m s m' s' : List Int} {x y : Sx} (hk : ¬ x.k = 4) : alkB (f + 1) m s m' s' x y = true ↔ (x.l.length = y.l.length ∧ ∀ (j : Nat) (h : j < x.l.length) (h' : j < y.l.length), alkB f (innA m s x.m x.s).1 (innA m s x.m x.s).2.1 (innA m' s' y.m y.s).1 (innA m' s' y.m y.s).2.1 (x.l[j]'h) (y.l[j]'h') = true) := by
 rw [alkB, if_neg hk, Bool.and_eq_true, List.all_eq_true, decide_eq_true_iff]
 constructor
 . rintro ⟨h0, h7⟩
   refine ⟨h0, fun j h h' => ?_⟩
   have := h7 j (List.mem_range.2 h)
   rwa [List.getElem?_eq_getElem h, List.getElem?_eq_getElem h'] at this
 . rintro ⟨h0, h7⟩
   refine ⟨h0, fun j hj => ?_⟩
   have h : j < x.l.length := List.mem_range.1 hj
   have h' : j < y.l.length := h0 ▸ h
   rw [List.getElem?_eq_getElem h, List.getElem?_eq_getElem h']
   exact h7 j h h'
theorem alkB_leaf {f : Nat} {m s m' s' : List Int} {x y : Sx} (hk : x.k = 4) : alkB (f + 1) m s m' s' x y = decide ((innA m s x.m x.s).1 = (innA m' s' y.m y.s).1 ∧ (innA m s x.m x.s).2.1 = (innA m' s' y.m y.s).2.1) := by
 rw [alkB, if_pos hk]
theorem alk_same : ∀ (f : Nat) (A B : Sx), okD f (dtm A) = true → okD f (dtm B) = true → sameA (dtm A) (dtm B) = true → ∀ {m s m' s' : List Int}, sndW m s = true → sndW m' s' = true → fltB m s A = true → fltB m' s' B = true → alkB f m s m' s' A B = sameS f (fltS m s A) (fltS m' s' B) := by
 intro f
 induction f with
 | zero => intro A B h; cases h
 | succ f ih =>
  intro A B hA hB hs m s m' s' hw hw' hfA hfB
  obtain ⟨k, t, n, r, l, a, dm, ds⟩ := A
  obtain ⟨k', t', n', r', l', a', dm', ds'⟩ := B
  obtain ⟨hA0, hAl⟩ := fltB_iff.1 hfA
  obtain ⟨hB0, hBl⟩ := fltB_iff.1 hfB
  obtain ⟨hAk, hA4⟩ := okD_kids hA
  obtain ⟨hBk, hB4⟩ := okD_kids hB
  rw [dtm_mk, dtm_mk] at hs
  have hp : k = k' ∧ byt t = byt t' ∧ (n = n' ∧ r = r') ∧ (l.map dtm).length = (l'.map dtm).length ∧ ∀ (j : Nat) (h : j < (l.map dtm).length) (h' : j < (l'.map dtm).length), sameA ((l.map dtm)[j]'h) ((l'.map dtm)[j]'h') = true := by
   apply Classical.byContradiction
   intro hn
   rw [not_parts (a := a) (a' := a') hn] at hs
   cases hs
  obtain ⟨rfl, ht, ⟨rfl, rfl⟩, hl, hall⟩ := hp
  have ht := byt_inj ht
  subst ht
  simp only [List.length_map] at hl hall
  have hsA := (wjA_sound hA0).1
  have hsB := (wjA_sound hB0).1
  rw [fltS_mk, fltS_mk]
  by_cases hk : k = 4
  . obtain rfl := hA4 hk
    obtain rfl := hB4 hk
    rw [alkB_leaf (x := .mk k t n r [] a dm ds) hk, Bool.eq_iff_iff, decide_eq_true_iff, sameS_iff]
    show (innA m s dm ds).1 = (innA m' s' dm' ds').1 ∧ (innA m s dm ds).2.1 = (innA m' s' dm' ds').2.1 ↔ _
    rw [innA_eq hw, innA_eq hw', if_pos hk, if_pos hk, if_pos hk, if_pos hk]
    exact ⟨fun h => ⟨rfl, rfl, ⟨rfl, rfl⟩, h.1, h.2, rfl, fun j hj => by cases hj⟩, fun h => ⟨h.2.2.2.1, h.2.2.2.2.1⟩⟩
  . rw [Bool.eq_iff_iff, alkB_node (x := .mk k t n r l a dm ds) hk, sameS_iff]
    rw [if_neg hk, if_neg hk, if_neg hk, if_neg hk]
    have hi1 : innA m s (Sx.mk k t n r l a dm ds).m (Sx.mk k t n r l a dm ds).s = wjA m s dm ds := innA_eq hw
    have hi2 : innA m' s' (Sx.mk k t n r l' a' dm' ds').m (Sx.mk k t n r l' a' dm' ds').s = wjA m' s' dm' ds' := innA_eq hw'
    rw [hi1, hi2]
    have hc : ∀ (j : Nat) (h : j < l.length) (h' : j < l'.length), alkB f (wjA m s dm ds).1 (wjA m s dm ds).2.1 (wjA m' s' dm' ds').1 (wjA m' s' dm' ds').2.1 (l[j]'h) (l'[j]'h') = sameS f (fltS (wjA m s dm ds).1 (wjA m s dm ds).2.1 (l[j]'h)) (fltS (wjA m' s' dm' ds').1 (wjA m' s' dm' ds').2.1 (l'[j]'h')) := fun j h h' => by
     have := hall j h h'
     rw [List.getElem_map, List.getElem_map] at this
     exact ih _ _ (hAk _ (List.getElem_mem h)) (hBk _ (List.getElem_mem h')) this hsA hsB (hAl _ (List.getElem_mem h)) (hBl _ (List.getElem_mem h'))
    constructor
    . rintro ⟨_, h2⟩
      refine ⟨rfl, rfl, ⟨rfl, rfl⟩, rfl, rfl, by rw [List.length_map, List.length_map]; exact hl, fun j h h' => ?_⟩
      rw [List.getElem_map, List.getElem_map, ← hc]
      exact h2 j (show j < l.length by simpa using h) (show j < l'.length by simpa using h')
    . rintro ⟨_, _, _, _, _, _, h7⟩
      refine ⟨hl, fun j h h' => ?_⟩
      have h : j < l.length := h
      have h' : j < l'.length := h'
      have h8 := h7 j (by simpa using h) (by simpa using h')
      rw [List.getElem_map, List.getElem_map, ← hc j h h'] at h8
      exact h8
theorem sndX_parts {D : Sx} (h : sndX D = true) : okD 64 (dtm D) = true ∧ fltB [] [] D = true := by
 rw [sndX_flt] at h
 simp only [Bool.and_eq_true] at h
 have h1 := h.1
 unfold sndD at h1
 rw [Bool.and_eq_true] at h1
 exact ⟨h1.1, h.2.2⟩
theorem sndX_of {D E : Sx} (h : sndX D = true) (hd : dtm E = dtm D) (hf : fltB [] [] E = true) : sndX E = true := by
 rw [sndX_flt] at h ⊢
 rw [hd]
 simp only [Bool.and_eq_true] at h ⊢
 exact ⟨h.1, h.2.1, hf⟩
def meanS (A B : Sx) : Bool := sameS 100 (fltS [] [] A) (fltS [] [] B)
noncomputable def samX (A B : Sx) : Bool := sndX A && (sndX B && meanS A B)
theorem mean_alk {A B : Sx} (hA : sndX A = true) (hB : sndX B = true) : (sameA (dtm A) (dtm B) && alkB 100 [] [] [] [] A B) = meanS A B := by
 obtain ⟨a1, a2⟩ := sndX_parts hA
 obtain ⟨b1, b2⟩ := sndX_parts hB
 unfold meanS
 cases hs : sameA (dtm A) (dtm B) with
 | true => rw [Bool.true_and]; exact alk_same 100 A B (okD_le (by omega) a1) (okD_le (by omega) b1) hs sndW_nil sndW_nil a2 b2
 | false =>
  rw [Bool.false_and]
  cases h : sameS 100 (fltS [] [] A) (fltS [] [] B) with
  | false => rfl
  | true =>
   have := sameS_dtm h
   rw [fltS_dt, fltS_dt, hs] at this
   cases this
theorem fltS_dp : ∀ {f : Nat} {D : Sx}, dpB f D = true → ∀ m s : List Int, dpB f (fltS m s D) = true := by
 intro f
 induction f with
 | zero => intro D h; cases h
 | succ f ih =>
  intro D h m s
  obtain ⟨k, t, n, r, l, a, dm, ds⟩ := D
  unfold dpB at h ⊢
  rw [fltS_mk]
  rw [List.all_eq_true] at h ⊢
  intro x hx
  obtain ⟨y, hy, rfl⟩ := List.mem_map.1 hx
  exact ih (h y hy) _ _
theorem sndX_dp {D : Sx} (h : sndX D = true) : dpB 64 D = true := (ok_deep _ _ (sndX_parts h).1).1
theorem mean_of {A B : Sx} (hA : sndX A = true) (h : fltS [] [] A = fltS [] [] B) : meanS A B = true := by
 unfold meanS
 rw [← h]
 exact sameS_refl (fltS_dp (dpB_le (by omega) (sndX_dp hA)) _ _)
theorem opn_snd {D : Sx} (h : sndX D = true) : sndX (opnS D) = true := sndX_of h (opnS_dtm D) (opn_flt (sndX_parts h).2).1
theorem flt_snd {D : Sx} (h : sndX D = true) : sndX (fltS [] [] D) = true := sndX_of h (fltS_dt _ _ D) (flt_idem 64 D (sndX_parts h).1 (sndX_parts h).2).1
def Rk (c : Int) (u v : List Int × List Int × Int) : Prop := (u.1 = c :: v.1 ∧ u.2.1 = 0 :: v.2.1) ∨ (v.1 = -1 :: u.1 ∧ v.2.1 = 0 :: u.2.1)
theorem Rk.ne {c : Int} {u v : List Int × List Int × Int} (h : Rk c u v) : ¬ u.1 = v.1 := by
 intro e
 have := congrArg List.length e
 rcases h with ⟨h1, _⟩ | ⟨h1, _⟩
 . rw [h1] at this; simp at this
 . rw [h1] at this; simp at this
theorem sndW_zcs {m s : List Int} (h : sndW m s = true) : zc s = m.length := by
 have h := sndW_snd h
 unfold sndS at h
 simp only [Bool.and_eq_true, decide_eq_true_iff] at h
 exact h.2.2
theorem gz_cons (c : Int) (m : List Int) (j : Nat) : gz (c :: m) (j + 1) = gz m j := by unfold gz; simp
theorem gz_cons0 (c : Int) (m : List Int) : gz (c :: m) 0 = c := by unfold gz; simp
theorem gz_last_cons {c : Int} {m : List Int} (h : m ≠ []) : gz (c :: m) ((c :: m).length - 1) = gz m (m.length - 1) := by
 have hl : 0 < m.length := List.length_pos_iff.2 h
 have : (c :: m).length - 1 = (m.length - 1) + 1 := by simp; omega
 rw [this, gz_cons]
theorem cutL_cons {b : Bool} {c : Int} {m : List Int} (h : m ≠ []) : cutL b (c :: m) = c :: cutL b m := by
 unfold cutL
 cases b
 . rfl
 . simp only [if_true]
   cases m with
   | nil => exact absurd rfl h
   | cons x m => rfl
theorem zc_pos {s : List Int} (h : s ≠ []) (h0 : zc s = 0) : gz s (s.length - 1) ≠ 0 ∧ gz s 0 ≠ 0 := by
 have hl : 0 < s.length := List.length_pos_iff.2 h
 unfold zc at h0
 rw [List.countP_eq_zero] at h0
 refine ⟨?_, ?_⟩
 . rw [gz_lt (by omega)]
   have := h0 _ (List.getElem_mem (l := s) (n := s.length - 1) (by omega))
   simpa using this
 . rw [gz_lt hl]
   have := h0 _ (List.getElem_mem (l := s) (n := 0) hl)
   simpa using this
end Go.Proofs.YtbfcbicbeagjkaaGreatDoor
namespace Go.Proofs.YtbfcbicbeagjkaaGreatDoor
open Go.RowKit
inductive SOwn (w : World) : (Nat → Prop) → Sx → List Value → Prop
 | mk {S : Nat → Prop} {k : Int} {t : ByteArray} {n : Bool} {r : List Nat} {l : List Sx} {a : Int} {m s : List Int} {lv av mv sv : Value} {us : List Value} {Fc : Nat → Nat → Prop} (ht : t.size ≤ maxLen) (hlim : ∀ x ∈ r, x < 4294967296)
  (hr : w.ownsRow 0 140 1 lv r.length (ucs r)) (hl : w.ownsRow 0 35 8 av l.length us) (hm : w.ownsRow 0 3 1 mv m.length (ics .i64 m)) (hs : w.ownsRow 0 3 1 sv s.length (ics .i64 s))
  (hrp : ∀ b, lv.ownBlock = some b → S b ∧ ∀ i, ¬ Fc i b) (hmp : ∀ b, mv.ownBlock = some b → S b ∧ ∀ i, ¬ Fc i b) (hsp : ∀ b, sv.ownBlock = some b → S b ∧ ∀ i, ¬ Fc i b) (hlp : ∀ b, av.ownBlock = some b → S b ∧ ∀ i, ¬ Fc i b)
  (hsub : ∀ i b, Fc i b → S b) (hdis : ∀ i j b, i ≠ j → Fc i b → ¬ Fc j b)
  (hin : ∀ (i : Nat) (h : i < l.length), SOwn w (Fc i) (l[i]'h) ((us.drop (i * 8)).take 8)) : SOwn w S (.mk k t n r l a m s) [.int .i64 k, .string t, .bool n, lv, av, .int .i64 a, mv, sv]
theorem SOwn.layP {S : Nat → Prop} {w : World} {d : Sx} {us : List Value} (h : SOwn w S d us) : ∀ {Q : Nat → Prop}, (∀ b, S b → Q b) → SLayP Q w d us := by
 induction h with
 | mk ht hlim hr hl hm hs hrp hmp hsp hlp hsub hdis hin ih =>
  intro Q hq
  exact .mk ht hlim (RowV.of_own hr) (fun b _ hb => hq b (hrp b hb).1) (RowV.of_own hl) (fun b _ hb => hq b (hlp b hb).1) (RowV.of_own hm) (fun b _ hb => hq b (hmp b hb).1) (RowV.of_own hs) (fun b _ hb => hq b (hsp b hb).1) fun i hi => ih i hi fun b hb => hq b (hsub i b hb)
theorem SOwn.lay {S : Nat → Prop} {w : World} {d : Sx} {us : List Value} (h : SOwn w S d us) : SLay w d us := (h.layP (Q := S) fun _ h => h).lay
theorem SOwn.mono {S T : Nat → Prop} {w : World} {d : Sx} {us : List Value} (h : SOwn w S d us) (hq : ∀ b, S b → T b) : SOwn w T d us := by
 cases h with
 | mk ht hlim hr hl hm hs hrp hmp hsp hlp hsub hdis hin => exact .mk ht hlim hr hl hm hs (fun b hb => ⟨hq b (hrp b hb).1, (hrp b hb).2⟩) (fun b hb => ⟨hq b (hmp b hb).1, (hmp b hb).2⟩) (fun b hb => ⟨hq b (hsp b hb).1, (hsp b hb).2⟩) (fun b hb => ⟨hq b (hlp b hb).1, (hlp b hb).2⟩) (fun i b hb => hq b (hsub i b hb)) hdis hin
theorem SOwn.move {S : Nat → Prop} {w w' : World} {d : Sx} {us : List Value} (h : SOwn w S d us) : Keeps S w w' → SOwn w' S d us := by
 induction h with
 | mk ht hlim hr hl hm hs hrp hmp hsp hlp hsub hdis hin ih =>
  intro hk
  exact .mk ht hlim (ownsRow_keep hr hk fun b hb => (hrp b hb).1) (ownsRow_keep hl hk fun b hb => (hlp b hb).1) (ownsRow_keep hm hk fun b hb => (hmp b hb).1) (ownsRow_keep hs hk fun b hb => (hsp b hb).1) hrp hmp hsp hlp hsub hdis fun i hi => ih i hi (hk.mono fun b _ hb => hsub i b hb)
theorem SOwn.under {S : Nat → Prop} {w w' : World} {d : Sx} {us : List Value} (h : SOwn w S d us) (hb : Below w.heap.size w w') : SOwn w' S d us := h.move (Keeps.of_below hb)
theorem SOwn.row {S : Nat → Prop} {w : World} {k : Int} {t : ByteArray} {n : Bool} {r : List Nat} {l : List Sx} {a : Int} {m s : List Int} {cs : List Value} (h : SOwn w S (.mk k t n r l a m s) cs) :
 ∃ lv av mv sv us, ∃ Fc : Nat → Nat → Prop, cs = [.int .i64 k, .string t, .bool n, lv, av, .int .i64 a, mv, sv] ∧ t.size ≤ maxLen ∧ (∀ x ∈ r, x < 4294967296) ∧ w.ownsRow 0 140 1 lv r.length (ucs r) ∧ w.ownsRow 0 35 8 av l.length us ∧ w.ownsRow 0 3 1 mv m.length (ics .i64 m) ∧ w.ownsRow 0 3 1 sv s.length (ics .i64 s) ∧
  (∀ b, lv.ownBlock = some b → S b ∧ ∀ i, ¬ Fc i b) ∧ (∀ b, mv.ownBlock = some b → S b ∧ ∀ i, ¬ Fc i b) ∧ (∀ b, sv.ownBlock = some b → S b ∧ ∀ i, ¬ Fc i b) ∧ (∀ b, av.ownBlock = some b → S b ∧ ∀ i, ¬ Fc i b) ∧ (∀ i b, Fc i b → S b) ∧ (∀ i j b, i ≠ j → Fc i b → ¬ Fc j b) ∧ ∀ (i : Nat) (h : i < l.length), SOwn w (Fc i) (l[i]'h) ((us.drop (i * 8)).take 8) := by
 cases h with
 | mk ht hlim hr hl hm hs hrp hmp hsp hlp hsub hdis hin => exact ⟨_, _, _, _, _, _, rfl, ht, hlim, hr, hl, hm, hs, hrp, hmp, hsp, hlp, hsub, hdis, hin⟩
theorem SOwn.wear {S T : Nat → Prop} {w : World} {k : Int} {t : ByteArray} {n : Bool} {r : List Nat} {l : List Sx} {a : Int} {m s m' s' : List Int} {lv av mv sv mv' sv' : Value} (h : SOwn w S (.mk k t n r l a m s) [.int .i64 k, .string t, .bool n, lv, av, .int .i64 a, mv, sv])
 (hm : w.ownsRow 0 3 1 mv' m'.length (ics .i64 m')) (hs : w.ownsRow 0 3 1 sv' s'.length (ics .i64 s')) (hmT : ∀ b, mv'.ownBlock = some b → T b ∧ ¬ S b) (hsT : ∀ b, sv'.ownBlock = some b → T b ∧ ¬ S b) (hST : ∀ b, S b → T b) :
 SOwn w T (.mk k t n r l a m' s') [.int .i64 k, .string t, .bool n, lv, av, .int .i64 a, mv', sv'] := by
 obtain ⟨_, _, _, _, us, Fc, hcs, ht, hlim, hr, hl, _, _, hrp, _, _, hlp, hsub, hdis, hin⟩ := h.row
 simp only [List.cons.injEq, true_and, and_true] at hcs
 obtain ⟨rfl, rfl, rfl, rfl⟩ := hcs
 exact .mk ht hlim hr hl hm hs (fun b hb => ⟨hST b (hrp b hb).1, (hrp b hb).2⟩) (fun b hb => ⟨(hmT b hb).1, fun i hi => (hmT b hb).2 (hsub i b hi)⟩) (fun b hb => ⟨(hsT b hb).1, fun i hi => (hsT b hb).2 (hsub i b hi)⟩) (fun b hb => ⟨hST b (hlp b hb).1, (hlp b hb).2⟩) (fun i b hb => hST b (hsub i b hb)) hdis hin
structure RowO (w : World) (b : Nat) (cs : Array Value) (T : Nat → Sx) (n : Nat) (Fc : Nat → Nat → Prop) : Prop where
 blk : w.heap[b]? = some (.cells cs 35 (0, 0))
 fit : n * 8 ≤ cs.size
 each : ∀ i, i < n → SOwn w (Fc i) (T i) ((cs.toList.drop (i * 8)).take 8)
 dis : ∀ i j c, i ≠ j → Fc i c → ¬ Fc j c
 off : ∀ i, ¬ Fc i b
 lt : ∀ i c, Fc i c → c < w.heap.size
def updT (T : Nat → Sx) (j : Nat) (d : Sx) : Nat → Sx := fun i => if i = j then d else T i
def updP (Fc : Nat → Nat → Prop) (j : Nat) (Q : Nat → Prop) : Nat → Nat → Prop := fun i => if i = j then Q else Fc i
theorem updT_self (T : Nat → Sx) (j : Nat) (d : Sx) : updT T j d j = d := by unfold updT; rw [if_pos rfl]
theorem updT_ne {T : Nat → Sx} {i j : Nat} {d : Sx} (h : i ≠ j) : updT T j d i = T i := by unfold updT; rw [if_neg h]
theorem updP_self (Fc : Nat → Nat → Prop) (j : Nat) (Q : Nat → Prop) : updP Fc j Q j = Q := by unfold updP; rw [if_pos rfl]
theorem updP_ne {Fc : Nat → Nat → Prop} {i j : Nat} {Q : Nat → Prop} (h : i ≠ j) : updP Fc j Q i = Fc i := by unfold updP; rw [if_neg h]
theorem RowO.step {w w' : World} {b : Nat} {cs cs' : Array Value} {T : Nat → Sx} {n n' : Nat} {Fc : Nat → Nat → Prop} (h : RowO w b cs T n Fc) {j : Nat} {d : Sx} {Q : Nat → Prop} (hblk : w'.heap[b]? = some (.cells cs' 35 (0, 0))) (hfit : n' * 8 ≤ cs'.size) (hn : ∀ i, i < n' → i ≠ j → i < n) (hout : ∀ i, i < n → i ≠ j → (cs'.toList.drop (i * 8)).take 8 = (cs.toList.drop (i * 8)).take 8)
 (hd : SOwn w' Q d ((cs'.toList.drop (j * 8)).take 8)) (hQ : ∀ c, Q c → (Fc j c ∨ w.heap.size ≤ c) ∧ c < w'.heap.size) (hk : Keeps (fun c => ¬ Fc j c ∧ c ≠ b) w w') : RowO w' b cs' (updT T j d) n' (updP Fc j Q) := by
 have hbl := (Array.getElem?_eq_some_iff.1 h.blk).1
 refine ⟨hblk, hfit, fun i hi => ?_, fun i1 i2 c hne h1 h2 => ?_, fun i hi => ?_, fun i c hc => ?_⟩
 . by_cases hij : i = j
   . subst hij; rw [updT_self, updP_self]; exact hd
   . rw [updT_ne hij, updP_ne hij, hout i (hn i hi hij) hij]
     exact (h.each i (hn i hi hij)).move (hk.mono fun c _ hc => ⟨h.dis i j c hij hc, fun e => h.off i (e ▸ hc)⟩)
 . by_cases e1 : i1 = j
   . subst e1
     have e2 : i2 ≠ i1 := fun e => hne e.symm
     rw [updP_self] at h1
     rw [updP_ne e2] at h2
     rcases (hQ c h1).1 with h3 | h3
     . exact h.dis i1 i2 c hne h3 h2
     . have := h.lt i2 c h2; omega
   . rw [updP_ne e1] at h1
     by_cases e2 : i2 = j
     . subst e2
       rw [updP_self] at h2
       rcases (hQ c h2).1 with h3 | h3
       . exact h.dis i1 i2 c hne h1 h3
       . have := h.lt i1 c h1; omega
     . rw [updP_ne e2] at h2
       exact h.dis i1 i2 c hne h1 h2
 . by_cases hij : i = j
   . subst hij
     rw [updP_self] at hi
     rcases (hQ b hi).1 with h3 | h3
     . exact h.off i h3
     . omega
   . rw [updP_ne hij] at hi; exact h.off i hi
 . by_cases hij : i = j
   . subst hij; rw [updP_self] at hc; exact (hQ c hc).2
   . rw [updP_ne hij] at hc
     exact Nat.lt_of_lt_of_le (h.lt i c hc) hk.1
theorem RowO.move {w w' : World} {b : Nat} {cs : Array Value} {T : Nat → Sx} {n : Nat} {Fc : Nat → Nat → Prop} (h : RowO w b cs T n Fc) (hk : Keeps (fun c => c = b ∨ ∃ i, Fc i c) w w') : RowO w' b cs T n Fc :=
 ⟨(hk.2 b (Array.getElem?_eq_some_iff.1 h.blk).1 (.inl rfl)).trans h.blk, h.fit, fun i hi => (h.each i hi).move (hk.mono fun c _ hc => .inr ⟨i, hc⟩), h.dis, h.off, fun i c hc => Nat.lt_of_lt_of_le (h.lt i c hc) hk.1⟩
theorem RowO.owns {w : World} {b : Nat} {cs : Array Value} {T : Nat → Sx} {n cap : Nat} {Fc : Nat → Nat → Prop} (h : RowO w b cs T n Fc) (hcap : n ≤ cap) (hm : cap ≤ maxLen) (hs : cs.size = cap * 8) : w.ownsRow 0 35 8 (.slice (some ⟨b, 0, none⟩) n cap) n (cs.toList.take (n * 8)) :=
 ⟨by rw [List.length_take, Array.length_toList, Nat.min_eq_left h.fit], .inr ⟨b, cap, cs, rfl, Nat.zero_le _, h.blk, hcap, hm, hs, rfl⟩⟩
theorem take_drop8 {l : List Value} {n i : Nat} (h : i < n) : ((l.take (n * 8)).drop (i * 8)).take 8 = (l.drop (i * 8)).take 8 := by
 rw [List.drop_take, List.take_take, Nat.min_eq_left (by omega)]
theorem cells8_at {cs : List Value} {o : Nat} {u0 u1 u2 u3 u4 u5 u6 u7 : Value} (h : (cs.drop o).take 8 = [u0, u1, u2, u3, u4, u5, u6, u7]) : cs[o]? = some u0 ∧ cs[o + 1]? = some u1 ∧ cs[o + 2]? = some u2 ∧ cs[o + 3]? = some u3 ∧ cs[o + 4]? = some u4 ∧ cs[o + 5]? = some u5 ∧ cs[o + 6]? = some u6 ∧ cs[o + 7]? = some u7 := by
 have key : ∀ j, j < 8 → cs[o + j]? = ([u0, u1, u2, u3, u4, u5, u6, u7] : List Value)[j]? := fun j hj => by
  rw [← h, List.getElem?_take, if_pos hj, List.getElem?_drop]
 exact ⟨key 0 (by omega), key 1 (by omega), key 2 (by omega), key 3 (by omega), key 4 (by omega), key 5 (by omega), key 6 (by omega), key 7 (by omega)⟩
theorem at_cells8 {cs : List Value} {o : Nat} {u0 u1 u2 u3 u4 u5 u6 u7 : Value} (h0 : cs[o]? = some u0) (h1 : cs[o + 1]? = some u1) (h2 : cs[o + 2]? = some u2) (h3 : cs[o + 3]? = some u3) (h4 : cs[o + 4]? = some u4) (h5 : cs[o + 5]? = some u5) (h6 : cs[o + 6]? = some u6) (h7 : cs[o + 7]? = some u7) : (cs.drop o).take 8 = [u0, u1, u2, u3, u4, u5, u6, u7] := by
 apply List.ext_getElem?
 intro j
 rw [List.getElem?_take]
 split
 . next hj =>
   rw [List.getElem?_drop]
   match j, hj with
   | 0, _ => exact h0
   | 1, _ => exact h1
   | 2, _ => exact h2
   | 3, _ => exact h3
   | 4, _ => exact h4
   | 5, _ => exact h5
   | 6, _ => exact h6
   | 7, _ => exact h7
 . next hj => rw [List.getElem?_eq_none (by simp; omega)]
def set8 (cs : Array Value) (o : Nat) (u0 u1 u2 u3 u4 u5 u6 u7 : Value) : Array Value := (((((((cs.setIfInBounds o u0).setIfInBounds (o + 1) u1).setIfInBounds (o + 2) u2).setIfInBounds (o + 3) u3).setIfInBounds (o + 4) u4).setIfInBounds (o + 5) u5).setIfInBounds (o + 6) u6).setIfInBounds (o + 7) u7
theorem set8_size (cs : Array Value) (o : Nat) (u0 u1 u2 u3 u4 u5 u6 u7 : Value) : (set8 cs o u0 u1 u2 u3 u4 u5 u6 u7).size = cs.size := by unfold set8; simp
theorem set8_out {cs : Array Value} {o : Nat} {u0 u1 u2 u3 u4 u5 u6 u7 : Value} {j : Nat} (h : j < o ∨ o + 8 ≤ j) : (set8 cs o u0 u1 u2 u3 u4 u5 u6 u7)[j]? = cs[j]? := by
 unfold set8
 simp only [Array.getElem?_setIfInBounds_ne (show o ≠ j by omega), Array.getElem?_setIfInBounds_ne (show o + 1 ≠ j by omega), Array.getElem?_setIfInBounds_ne (show o + 2 ≠ j by omega), Array.getElem?_setIfInBounds_ne (show o + 3 ≠ j by omega), Array.getElem?_setIfInBounds_ne (show o + 4 ≠ j by omega), Array.getElem?_setIfInBounds_ne (show o + 5 ≠ j by omega), Array.getElem?_setIfInBounds_ne (show o + 6 ≠ j by omega), Array.getElem?_setIfInBounds_ne (show o + 7 ≠ j by omega)]
theorem set_at {cs : Array Value} {i j : Nat} {u : Value} (h : i < cs.size) : (cs.setIfInBounds i u)[j]? = if i = j then some u else cs[j]? := by
 by_cases e : i = j
 . subst e; rw [if_pos rfl]; exact Array.getElem?_setIfInBounds_self_of_lt h
 . rw [if_neg e]; exact Array.getElem?_setIfInBounds_ne e
theorem drop8_eq {cs cs' : Array Value} {o : Nat} (h : ∀ j, o ≤ j → j < o + 8 → cs'[j]? = cs[j]?) : (cs'.toList.drop o).take 8 = (cs.toList.drop o).take 8 := by
 apply List.ext_getElem?
 intro j
 rw [List.getElem?_take, List.getElem?_take]
 split
 . next hj =>
   rw [List.getElem?_drop, List.getElem?_drop, Array.getElem?_toList, Array.getElem?_toList]
   exact h _ (by omega) (by omega)
 . rfl
theorem set8_in {cs : Array Value} {o : Nat} {u0 u1 u2 u3 u4 u5 u6 u7 : Value} (h : o + 8 ≤ cs.size) : ((set8 cs o u0 u1 u2 u3 u4 u5 u6 u7).toList.drop o).take 8 = [u0, u1, u2, u3, u4, u5, u6, u7] := by
 refine at_cells8 ?_ ?_ ?_ ?_ ?_ ?_ ?_ ?_
 all_goals
  rw [Array.getElem?_toList]
  unfold set8
  repeat rw [set_at (by (try simp only [Array.size_setIfInBounds]); omega)]
  simp
end Go.Proofs.YtbfcbicbeagjkaaGreatDoor
