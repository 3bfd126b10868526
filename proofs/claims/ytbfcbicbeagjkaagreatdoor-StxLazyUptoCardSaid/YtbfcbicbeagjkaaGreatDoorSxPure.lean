/- law10's symbols: is a Symbol in a piece? | ref.Same of any two datums. | Three wraps around one another are the same, whichever two are joined first. No walk here. | What a wrap around, opening and flattening make of a piece, and which pieces mean the same. No walk here. -/
import Derived.Test.YtbfcbicbeagjkaaGreatDoorSxP
import Derived.Test.YtbfcbicbeagjkaaGreatDoorTkAtom
import Derived.Test.YtbfcbicbeagjkaaGreatDoorRdMath
import Derived.StillTailTactics
import Derived.Test.YtbfcbicbeagjkaaGreatDoorTkSc
import Derived.Test.YtbfcbicbeagjkaaGreatDoorSxMath
import Derived.Test.YtbfcbicbeagjkaaGreatDoorDmOwnP
namespace Go.Proofs.YtbfcbicbeagjkaaGreatDoor
open Go.RowKit

end Go.Proofs.YtbfcbicbeagjkaaGreatDoor
namespace Go.Proofs.YtbfcbicbeagjkaaGreatDoor
open Go.RowKit

/-- A datum without where it stands. -/
def Dm.strip : Dm → Dm
  | .mk k t n r l _ => .mk k t n r (l.attach.map fun ⟨d, _⟩ => Dm.strip d) 0
theorem strip_mk (k : Int) (t : List Nat) (n : Bool) (r : List Nat) (l : List Dm) (a : Int) : (Dm.mk k t n r l a).strip = .mk k t n r (l.map Dm.strip) 0 := by
  unfold Dm.strip
  rw [List.attach_map_val (l := l) (f := Dm.strip)]
open Classical in
/-- The same, wherever they stand? -/
noncomputable def sameA (a b : Dm) : Bool := decide (a.strip = b.strip)
theorem sameA_iff {a b : Dm} : sameA a b = true ↔ a.strip = b.strip := by unfold sameA; simp
theorem sameA_false {a b : Dm} (h : a.strip ≠ b.strip) : sameA a b = false := by unfold sameA; simp [h]
theorem sameA_true {a b : Dm} (h : a.strip = b.strip) : sameA a b = true := sameA_iff.2 h
theorem same_parts {k k' : Int} {t t' : List Nat} {n n' : Bool} {r r' : List Nat} {l l' : List Dm} {a a' : Int} (hk : k = k') (ht : t = t') (hn : n = n' ∧ r = r') (hl : l.length = l'.length) (hall : ∀ (j : Nat) (h : j < l.length) (h' : j < l'.length), sameA (l[j]'h) (l'[j]'h') = true) :
    sameA (.mk k t n r l a) (.mk k' t' n' r' l' a') = true := by
  refine sameA_true ?_
  rw [strip_mk, strip_mk, hk, ht, hn.1, hn.2]
  congr 1
  apply List.ext_getElem (by simp [hl])
  intro j h1 h2
  simp only [List.length_map] at h1 h2
  rw [List.getElem_map, List.getElem_map]
  exact sameA_iff.1 (hall j h1 h2)
theorem not_parts {k k' : Int} {t t' : List Nat} {n n' : Bool} {r r' : List Nat} {l l' : List Dm} {a a' : Int} (h : ¬ (k = k' ∧ t = t' ∧ (n = n' ∧ r = r') ∧ l.length = l'.length ∧ ∀ (j : Nat) (h : j < l.length) (h' : j < l'.length), sameA (l[j]'h) (l'[j]'h') = true)) :
    sameA (.mk k t n r l a) (.mk k' t' n' r' l' a') = false := by
  refine sameA_false fun e => h ?_
  rw [strip_mk, strip_mk] at e
  injection e with e1 e2 e3 e4 e5 _
  have hl : l.length = l'.length := by have := congrArg List.length e5; simpa using this
  refine ⟨e1, e2, ⟨e3, e4⟩, hl, fun j h1 h2 => sameA_true ?_⟩
  have := congrArg (fun x => x[j]?) e5
  simp only [List.getElem?_map, List.getElem?_eq_getElem h1, List.getElem?_eq_getElem h2, Option.map_some] at this
  exact Option.some.inj this
theorem mkB_inj {t t' : List Nat} (h : By t) (h' : By t') (e : mkB t = mkB t') : t = t' := by rw [← byt_mk h, ← byt_mk h', e]
theorem str_ne' {t t' : List Nat} (h : By t) (h' : By t') (hne : t ≠ t') : ((mkB t).toList != (mkB t').toList) = true := by
  rw [bne_iff_ne]
  intro e
  refine hne (mkB_inj h h' ?_)
  have e1 : (mkB t).toList = (mkB t).data.toList := Lib.toList_data _
  have e2 : (mkB t').toList = (mkB t').data.toList := Lib.toList_data _
  rw [e1, e2] at e
  apply ByteArray.ext
  exact Array.ext' e
end Go.Proofs.YtbfcbicbeagjkaaGreatDoor
namespace Go.Proofs.YtbfcbicbeagjkaaGreatDoor
open Go.RowKit

theorem joinA_zero {m s n t : List Int} (h : (wjA m s n t).2.2 = 0) : sndW m s = true ∧ sndW n t = true ∧ (wjA m s n t).1 = cutL (endB m s && begB n t) m ++ cutF (endB m s && begB n t) n ∧ (wjA m s n t).2.1 = cutL (endB m s && begB n t) s ++ cutF (endB m s && begB n t) t := by
  cases h1 : sndW m s with
  | false => rw [joinA_bad (by rw [h1]; rfl)] at h; cases h
  | true =>
    cases h2 : sndW n t with
    | false => rw [joinA_bad (by rw [h2, Bool.and_false])] at h; cases h
    | true =>
      have he := joinA_ok h1 h2
      rw [he] at h
      refine ⟨rfl, rfl, ?_⟩
      rw [he]
      generalize hx : marryA (endB m s && begB n t) m s n t = x at h ⊢
      cases h3 : lrgB x.1 x.2 with
      | true => rw [closeA_large h3] at h; cases h
      | false =>
        cases h4 : sndS x.1 x.2 with
        | false => rw [closeA_bad h3 h4] at h; cases h
        | true =>
          rw [closeA_ok h3 h4, ← hx]
          exact ⟨rfl, rfl⟩
theorem cutL_app {b : Bool} {x y : List Int} (h : y ≠ []) : cutL b (x ++ y) = x ++ cutL b y := by
  unfold cutL
  cases b
  · rfl
  · simp only [if_true]; exact List.dropLast_append_of_ne_nil h
theorem gz_last_app {x y : List Int} (h : y ≠ []) : gz (x ++ y) ((x ++ y).length - 1) = gz y (y.length - 1) := by
  have hl : 0 < y.length := List.length_pos_iff.2 h
  rw [gz_app2 (by rw [List.length_append]; omega), List.length_append]
  congr 1
  omega
end Go.Proofs.YtbfcbicbeagjkaaGreatDoor
namespace Go.Proofs.YtbfcbicbeagjkaaGreatDoor
open Go.RowKit

theorem wjA_nl {m s : List Int} (h : sndW m s = true) : wjA [] [] m s = (m, s, 0) := by
  rw [joinA_ok sndW_nil h]
  have e : endB [] [] = false := by decide
  rw [e, Bool.false_and]
  have e2 : marryA false [] [] m s = (m, s) := by unfold marryA cutL cutF; simp
  rw [e2]
  refine closeA_ok ?_ (sndW_snd h)
  unfold sndW at h
  rw [Bool.and_eq_true] at h
  simpa using h.1
theorem wjA_self {m s n t : List Int} (h : (wjA m s n t).2.2 = 0) : wjA [] [] (wjA m s n t).1 (wjA m s n t).2.1 = wjA m s n t := by
  rw [wjA_nl (wjA_sound h).1]
  exact Prod.ext rfl (Prod.ext rfl h.symm)
/-- With another wrap. -/
def reS (m s : List Int) : Sx → Sx
  | .mk k t n r l a _ _ => .mk k t n r l a m s
theorem reS_dtm (m s : List Int) (D : Sx) : dtm (reS m s D) = dtm D := by cases D; unfold reS; rw [dtm_mk, dtm_mk]
/-- The piece with a wrap around. -/
def pshS (m s : List Int) (D : Sx) : Sx := reS (wjA m s D.m D.s).1 (wjA m s D.m D.s).2.1 D
/-- Opened. -/
def opnS (D : Sx) : Sx := if 1 ≤ D.k ∧ D.k ≤ 3 then .mk D.k D.t D.n D.r (D.l.map (pshS D.m D.s)) D.a [] [] else D
theorem opnS_yes {k : Int} {t : ByteArray} {n : Bool} {r : List Nat} {l : List Sx} {a : Int} {dm ds : List Int} (hk : 1 ≤ k ∧ k ≤ 3) : opnS (.mk k t n r l a dm ds) = .mk k t n r (l.map (pshS dm ds)) a [] [] := if_pos hk
theorem opnS_no {D : Sx} (hk : ¬ (1 ≤ D.k ∧ D.k ≤ 3)) : opnS D = D := if_neg hk
theorem pshS_dtm (m s : List Int) (D : Sx) : dtm (pshS m s D) = dtm D := reS_dtm _ _ D
theorem fltB_iff {m s : List Int} {k : Int} {t : ByteArray} {n : Bool} {r : List Nat} {l : List Sx} {a : Int} {dm ds : List Int} : fltB m s (.mk k t n r l a dm ds) = true ↔ (wjA m s dm ds).2.2 = 0 ∧ ∀ x ∈ l, fltB (wjA m s dm ds).1 (wjA m s dm ds).2.1 x = true := by
  rw [fltB_mk, Bool.and_eq_true, List.all_eq_true, decide_eq_true_iff]
theorem flt_ctx {u v p q u' v' : List Int} {D : Sx} (h : wjA u v p q = wjA u' v' D.m D.s) : fltB u v (reS p q D) = fltB u' v' D ∧ fltS u v (reS p q D) = fltS u' v' D := by
  obtain ⟨k, t, n, r, l, a, dm, ds⟩ := D
  have h : wjA u v p q = wjA u' v' dm ds := h
  unfold reS
  rw [fltB_mk, fltB_mk, fltS_mk, fltS_mk, h]
  exact ⟨rfl, rfl⟩
theorem fltB_err {m s : List Int} {D : Sx} (h : fltB m s D = true) : (wjA m s D.m D.s).2.2 = 0 := by
  obtain ⟨k, t, n, r, l, a, dm, ds⟩ := D
  exact (fltB_iff.1 h).1
theorem fltS_dtm : ∀ (n : Nat) (D : Sx), D.sz ≤ n → ∀ m s : List Int, dtm (fltS m s D) = dtm D := by
  intro n
  induction n with
  | zero => intro D h; have := D.sz_pos; omega
  | succ n ih =>
    intro D h m s
    obtain ⟨k, t, ng, r, l, a, dm, ds⟩ := D
    rw [fltS_mk, dtm_mk, dtm_mk, List.map_map]
    congr 1
    exact List.map_congr_left fun x hx => ih x (by have := Sx.sz_mem (d := .mk k t ng r l a dm ds) hx; omega) _ _
theorem fltS_dt (m s : List Int) (D : Sx) : dtm (fltS m s D) = dtm D := fltS_dtm _ D (Nat.le_refl _) m s
theorem okD_kids {f : Nat} {k : Int} {t : ByteArray} {n : Bool} {r : List Nat} {l : List Sx} {a : Int} {m s : List Int} (h : okD (f + 1) (dtm (.mk k t n r l a m s)) = true) : (∀ x ∈ l, okD f (dtm x) = true) ∧ (k = 4 → l = []) := by
  rw [dtm_mk] at h
  refine ⟨fun x hx => okD_all h _ (List.mem_map_of_mem hx), fun hk => ?_⟩
  subst hk
  rw [okD_leaf (by omega) (by omega), Bool.and_eq_true] at h
  have := of_decide_eq_true h.2
  rw [List.length_map] at this
  exact List.eq_nil_of_length_eq_zero this
theorem okD_up : ∀ {f : Nat} {D : Dm}, okD f D = true → okD (f + 1) D = true := by
  intro f
  induction f with
  | zero => intro D h; cases h
  | succ f ih =>
    intro D h
    obtain ⟨k, t, n, r, l, a⟩ := D
    have ha := okD_all h
    by_cases hk : k = 1 ∨ k = 2 ∨ k = 3
    · rw [okD_node hk, Bool.and_eq_true] at h ⊢
      exact ⟨h.1, List.all_eq_true.2 fun x hx => ih (ha x hx)⟩
    · by_cases h7 : k = 7
      · subst h7
        rw [okD_int] at h ⊢; exact h
      · rw [okD_leaf hk h7] at h ⊢; exact h
theorem okD_le {f g : Nat} (hle : f ≤ g) {D : Dm} (h : okD f D = true) : okD g D = true := by
  induction hle with
  | refl => exact h
  | step _ ih => exact okD_up ih
theorem sameS_refl : ∀ {f : Nat} {D : Sx}, dpB f D = true → sameS f D D = true := by
  intro f
  induction f with
  | zero => intro D h; cases h
  | succ f ih =>
    intro D h
    obtain ⟨k, t, n, r, l, a, m, s⟩ := D
    unfold dpB at h
    exact sameS_iff.2 ⟨rfl, rfl, ⟨rfl, rfl⟩, rfl, rfl, rfl, fun j hj _ => ih (List.all_eq_true.1 h _ (List.getElem_mem hj))⟩
theorem dpB_up : ∀ {f : Nat} {D : Sx}, dpB f D = true → dpB (f + 1) D = true := by
  intro f
  induction f with
  | zero => intro D h; cases h
  | succ f ih =>
    intro D h
    unfold dpB at h ⊢
    rw [List.all_eq_true] at h ⊢
    exact fun x hx => ih (h x hx)
theorem dpB_le {f g : Nat} (hle : f ≤ g) {D : Sx} (h : dpB f D = true) : dpB g D = true := by
  induction hle with
  | refl => exact h
  | step _ ih => exact dpB_up ih
theorem sameS_dtm : ∀ {f : Nat} {x y : Sx}, sameS f x y = true → sameA (dtm x) (dtm y) = true := by
  intro f
  induction f with
  | zero => intro x y h; cases h
  | succ f ih =>
    intro x y h
    obtain ⟨k, t, n, r, l, a, m, s⟩ := x
    obtain ⟨k', t', n', r', l', a', m', s'⟩ := y
    obtain ⟨h1, h2, h3, _, _, h6, h7⟩ := sameS_iff.1 h
    rw [dtm_mk, dtm_mk]
    refine same_parts h1 (by rw [h2]) h3 (by simp [h6]) fun j hj hj' => ?_
    simp only [List.length_map] at hj hj'
    rw [List.getElem_map, List.getElem_map]
    exact ih (h7 j hj hj')
/-- Do they mean the same wraps at their Symbols? -/
def alkB : Nat → List Int → List Int → List Int → List Int → Sx → Sx → Bool
  | 0, _, _, _, _, _, _ => false
  | f + 1, m, s, m', s', x, y => if x.k = 4 then decide ((innA m s x.m x.s).1 = (innA m' s' y.m y.s).1 ∧ (innA m s x.m x.s).2.1 = (innA m' s' y.m y.s).2.1) else decide (x.l.length = y.l.length) && (List.range x.l.length).all fun i => match x.l[i]?, y.l[i]? with
    | some a, some b => alkB f (innA m s x.m x.s).1 (innA m s x.m x.s).2.1 (innA m' s' y.m y.s).1 (innA m' s' y.m y.s).2.1 a b
    | _, _ => false
theorem alkB_node {f : Nat} {m s m' s' : List Int} {x y : Sx} (hk : ¬ x.k = 4) : alkB (f + 1) m s m' s' x y = true ↔ (x.l.length = y.l.length ∧ ∀ (j : Nat) (h : j < x.l.length) (h' : j < y.l.length), alkB f (innA m s x.m x.s).1 (innA m s x.m x.s).2.1 (innA m' s' y.m y.s).1 (innA m' s' y.m y.s).2.1 (x.l[j]'h) (y.l[j]'h') = true) := by
  rw [alkB, if_neg hk, Bool.and_eq_true, List.all_eq_true, decide_eq_true_iff]
  constructor
  · rintro ⟨h0, h7⟩
    refine ⟨h0, fun j h h' => ?_⟩
    have := h7 j (List.mem_range.2 h)
    rwa [List.getElem?_eq_getElem h, List.getElem?_eq_getElem h'] at this
  · rintro ⟨h0, h7⟩
    refine ⟨h0, fun j hj => ?_⟩
    have h : j < x.l.length := List.mem_range.1 hj
    have h' : j < y.l.length := h0 ▸ h
    rw [List.getElem?_eq_getElem h, List.getElem?_eq_getElem h']
    exact h7 j h h'
theorem alkB_leaf {f : Nat} {m s m' s' : List Int} {x y : Sx} (hk : x.k = 4) : alkB (f + 1) m s m' s' x y = decide ((innA m s x.m x.s).1 = (innA m' s' y.m y.s).1 ∧ (innA m s x.m x.s).2.1 = (innA m' s' y.m y.s).2.1) := by
  rw [alkB, if_pos hk]
theorem alk_same : ∀ (f : Nat) (A B : Sx), okD f (dtm A) = true → okD f (dtm B) = true → sameA (dtm A) (dtm B) = true → ∀ {m s m' s' : List Int}, sndW m s = true → sndW m' s' = true → fltB m s A = true → fltB m' s' B = true → alkB f m s m' s' A B = sameS f (fltS m s A) (fltS m' s' B) := by
  intro f
  induction f with
  | zero => intro A B h; cases h
  | succ f ih =>
    intro A B hA hB hs m s m' s' hw hw' hfA hfB
    obtain ⟨k, t, n, r, l, a, dm, ds⟩ := A
    obtain ⟨k', t', n', r', l', a', dm', ds'⟩ := B
    obtain ⟨hA0, hAl⟩ := fltB_iff.1 hfA
    obtain ⟨hB0, hBl⟩ := fltB_iff.1 hfB
    obtain ⟨hAk, hA4⟩ := okD_kids hA
    obtain ⟨hBk, hB4⟩ := okD_kids hB
    rw [dtm_mk, dtm_mk] at hs
    have hp : k = k' ∧ byt t = byt t' ∧ (n = n' ∧ r = r') ∧ (l.map dtm).length = (l'.map dtm).length ∧ ∀ (j : Nat) (h : j < (l.map dtm).length) (h' : j < (l'.map dtm).length), sameA ((l.map dtm)[j]'h) ((l'.map dtm)[j]'h') = true := by
      apply Classical.byContradiction
      intro hn
      rw [not_parts (a := a) (a' := a') hn] at hs
      cases hs
    obtain ⟨rfl, ht, ⟨rfl, rfl⟩, hl, hall⟩ := hp
    have ht := byt_inj ht
    subst ht
    simp only [List.length_map] at hl hall
    have hsA := (wjA_sound hA0).1
    have hsB := (wjA_sound hB0).1
    rw [fltS_mk, fltS_mk]
    by_cases hk : k = 4
    · obtain rfl := hA4 hk
      obtain rfl := hB4 hk
      rw [alkB_leaf (x := .mk k t n r [] a dm ds) hk, Bool.eq_iff_iff, decide_eq_true_iff, sameS_iff]
      show (innA m s dm ds).1 = (innA m' s' dm' ds').1 ∧ (innA m s dm ds).2.1 = (innA m' s' dm' ds').2.1 ↔ _
      rw [innA_eq hw, innA_eq hw', if_pos hk, if_pos hk, if_pos hk, if_pos hk]
      exact ⟨fun h => ⟨rfl, rfl, ⟨rfl, rfl⟩, h.1, h.2, rfl, fun j hj => by cases hj⟩, fun h => ⟨h.2.2.2.1, h.2.2.2.2.1⟩⟩
    · rw [Bool.eq_iff_iff, alkB_node (x := .mk k t n r l a dm ds) hk, sameS_iff]
      rw [if_neg hk, if_neg hk, if_neg hk, if_neg hk]
      have hi1 : innA m s (Sx.mk k t n r l a dm ds).m (Sx.mk k t n r l a dm ds).s = wjA m s dm ds := innA_eq hw
      have hi2 : innA m' s' (Sx.mk k t n r l' a' dm' ds').m (Sx.mk k t n r l' a' dm' ds').s = wjA m' s' dm' ds' := innA_eq hw'
      rw [hi1, hi2]
      have hc : ∀ (j : Nat) (h : j < l.length) (h' : j < l'.length), alkB f (wjA m s dm ds).1 (wjA m s dm ds).2.1 (wjA m' s' dm' ds').1 (wjA m' s' dm' ds').2.1 (l[j]'h) (l'[j]'h') = sameS f (fltS (wjA m s dm ds).1 (wjA m s dm ds).2.1 (l[j]'h)) (fltS (wjA m' s' dm' ds').1 (wjA m' s' dm' ds').2.1 (l'[j]'h')) := fun j h h' => by
        have := hall j h h'
        rw [List.getElem_map, List.getElem_map] at this
        exact ih _ _ (hAk _ (List.getElem_mem h)) (hBk _ (List.getElem_mem h')) this hsA hsB (hAl _ (List.getElem_mem h)) (hBl _ (List.getElem_mem h'))
      constructor
      · rintro ⟨_, h2⟩
        refine ⟨rfl, rfl, ⟨rfl, rfl⟩, rfl, rfl, by rw [List.length_map, List.length_map]; exact hl, fun j h h' => ?_⟩
        rw [List.getElem_map, List.getElem_map, ← hc]
        exact h2 j (show j < l.length by simpa using h) (show j < l'.length by simpa using h')
      · rintro ⟨_, _, _, _, _, _, h7⟩
        refine ⟨hl, fun j h h' => ?_⟩
        have h : j < l.length := h
        have h' : j < l'.length := h'
        have h8 := h7 j (by simpa using h) (by simpa using h')
        rw [List.getElem_map, List.getElem_map, ← hc j h h'] at h8
        exact h8
theorem sndX_parts {D : Sx} (h : sndX D = true) : okD 64 (dtm D) = true ∧ fltB [] [] D = true := by
  rw [sndX_flt] at h
  simp only [Bool.and_eq_true] at h
  have h1 := h.1
  unfold sndD at h1
  rw [Bool.and_eq_true] at h1
  exact ⟨h1.1, h.2.2⟩
theorem sndX_of {D E : Sx} (h : sndX D = true) (hd : dtm E = dtm D) (hf : fltB [] [] E = true) : sndX E = true := by
  rw [sndX_flt] at h ⊢
  rw [hd]
  simp only [Bool.and_eq_true] at h ⊢
  exact ⟨h.1, h.2.1, hf⟩
/-- Do they mean the same? -/
def meanS (A B : Sx) : Bool := sameS 100 (fltS [] [] A) (fltS [] [] B)
/-- The program's Same, and the document's. -/
noncomputable def samX (A B : Sx) : Bool := sndX A && (sndX B && meanS A B)
theorem mean_alk {A B : Sx} (hA : sndX A = true) (hB : sndX B = true) : (sameA (dtm A) (dtm B) && alkB 100 [] [] [] [] A B) = meanS A B := by
  obtain ⟨a1, a2⟩ := sndX_parts hA
  obtain ⟨b1, b2⟩ := sndX_parts hB
  unfold meanS
  cases hs : sameA (dtm A) (dtm B) with
  | true => rw [Bool.true_and]; exact alk_same 100 A B (okD_le (by omega) a1) (okD_le (by omega) b1) hs sndW_nil sndW_nil a2 b2
  | false =>
    rw [Bool.false_and]
    cases h : sameS 100 (fltS [] [] A) (fltS [] [] B) with
    | false => rfl
    | true =>
      have := sameS_dtm h
      rw [fltS_dt, fltS_dt, hs] at this
      cases this
theorem fltS_dp : ∀ {f : Nat} {D : Sx}, dpB f D = true → ∀ m s : List Int, dpB f (fltS m s D) = true := by
  intro f
  induction f with
  | zero => intro D h; cases h
  | succ f ih =>
    intro D h m s
    obtain ⟨k, t, n, r, l, a, dm, ds⟩ := D
    unfold dpB at h ⊢
    rw [fltS_mk]
    rw [List.all_eq_true] at h ⊢
    intro x hx
    obtain ⟨y, hy, rfl⟩ := List.mem_map.1 hx
    exact ih (h y hy) _ _
theorem sndX_dp {D : Sx} (h : sndX D = true) : dpB 64 D = true := (ok_deep _ _ (sndX_parts h).1).1
theorem mean_of {A B : Sx} (hA : sndX A = true) (h : fltS [] [] A = fltS [] [] B) : meanS A B = true := by
  unfold meanS
  rw [← h]
  exact sameS_refl (fltS_dp (dpB_le (by omega) (sndX_dp hA)) _ _)
theorem sndW_mks {m s : List Int} (h : sndW m s = true) : mksB m = true := by
  have := sndW_snd h
  unfold sndS at this
  rw [Bool.and_eq_true] at this
  exact this.1
theorem sndW_zcs {m s : List Int} (h : sndW m s = true) : zc s = m.length := by
  have h := sndW_snd h
  unfold sndS at h
  simp only [Bool.and_eq_true, decide_eq_true_iff] at h
  exact h.2.2
theorem zc_pos {s : List Int} (h : s ≠ []) (h0 : zc s = 0) : gz s (s.length - 1) ≠ 0 ∧ gz s 0 ≠ 0 := by
  have hl : 0 < s.length := List.length_pos_iff.2 h
  unfold zc at h0
  rw [List.countP_eq_zero] at h0
  refine ⟨?_, ?_⟩
  · rw [gz_lt (by omega)]
    have := h0 _ (List.getElem_mem (l := s) (n := s.length - 1) (by omega))
    simpa using this
  · rw [gz_lt hl]
    have := h0 _ (List.getElem_mem (l := s) (n := 0) hl)
    simpa using this
end Go.Proofs.YtbfcbicbeagjkaaGreatDoor
