/- Pieces of syntax without memory: their datum, and which may be, for the program and for the document. No walk here. -/
import Derived.Test.YtbfcbicbeagjkaaDoorSxOwn
import Derived.Test.YtbfcbicbeagjkaaDoorTkSc
import Derived.Test.YtbfcbicbeagjkaaDoorRdMath
import Derived.Test.YtbfcbicbeagjkaaDoorUEncMath
namespace Go.Proofs.YtbfcbicbeagjkaaDoor
open Go.RowKit

/-- How many pieces it is, and is in it. -/
def Sx.sz : Sx → Nat
  | .mk _ _ _ _ l _ _ _ => 1 + (l.attach.map fun ⟨d, _⟩ => Sx.sz d).sum
theorem Sx.sz_eq (d : Sx) : d.sz = 1 + (d.l.map Sx.sz).sum := by
  cases d with
  | mk k t n r l a m s =>
    unfold Sx.sz
    show _ = 1 + (l.map Sx.sz).sum
    rw [List.attach_map_val (l := l) (f := Sx.sz)]
theorem Sx.sz_mem {d x : Sx} (h : x ∈ d.l) : x.sz < d.sz := by
  rw [Sx.sz_eq d]
  have key : ∀ l : List Sx, x ∈ l → x.sz ≤ (l.map Sx.sz).sum := by
    intro l
    induction l with
    | nil => intro h; cases h
    | cons y l ih =>
      intro h
      rw [List.map_cons, List.sum_cons]
      rcases List.mem_cons.1 h with rfl | h
      · omega
      · have := ih h; omega
  have := key _ h
  omega
theorem Sx.sz_pos (d : Sx) : 1 ≤ d.sz := by rw [Sx.sz_eq]; omega
/-- What the first so many of a list come to. -/
def xzs (l : List Sx) (i : Nat) : Nat := ((l.take i).map Sx.sz).sum
theorem xzs_zero (l : List Sx) : xzs l 0 = 0 := by simp [xzs]
theorem xzs_succ {l : List Sx} {i : Nat} (h : i < l.length) : xzs l (i + 1) = xzs l i + (l[i]'h).sz := by
  unfold xzs
  rw [← List.take_append_getElem h, List.map_append, List.sum_append]
  simp only [List.map_cons, List.map_nil, List.sum_cons, List.sum_nil, Nat.add_zero]
theorem xzs_all (l : List Sx) : xzs l l.length = (l.map Sx.sz).sum := by simp [xzs]
theorem xzs_node {k : Int} {t : ByteArray} {n : Bool} {r : List Nat} {l : List Sx} {a : Int} {m s : List Int} : (Sx.mk k t n r l a m s).sz = 1 + xzs l l.length := by rw [Sx.sz_eq, xzs_all]; rfl
theorem xzs_le {l : List Sx} {i : Nat} (h : i ≤ l.length) : xzs l i ≤ xzs l l.length := by
  have key : ∀ d j, j + d = l.length → xzs l j ≤ xzs l l.length := by
    intro d
    induction d with
    | zero => intro j hj; rw [show j = l.length by omega]; exact Nat.le_refl _
    | succ d ih =>
      intro j hj
      have := ih (j + 1) (by omega)
      have h2 := xzs_succ (l := l) (i := j) (by omega)
      omega
  exact key (l.length - i) i (by omega)
/-- Its datum, whatever its wraps. -/
def dtm : Sx → Dm
  | .mk k t n r l a _ _ => .mk k (byt t) n r (l.attach.map fun ⟨d, _⟩ => dtm d) a
theorem dtm_mk (k : Int) (t : ByteArray) (n : Bool) (r : List Nat) (l : List Sx) (a : Int) (m s : List Int) : dtm (.mk k t n r l a m s) = .mk k (byt t) n r (l.map dtm) a := by
  rw [dtm, List.attach_map_val (l := l) (f := dtm)]
theorem dtm_eq (D : Sx) : dtm D = .mk D.k (byt D.t) D.n D.r (D.l.map dtm) D.a := by cases D; exact dtm_mk ..
theorem dtm_sz : ∀ (n : Nat) (D : Sx), D.sz ≤ n → (dtm D).sz = D.sz := by
  intro n
  induction n with
  | zero => intro D h; have := D.sz_pos; omega
  | succ n ih =>
    intro D h
    rw [Dm.sz_eq, Sx.sz_eq, dtm_eq]
    show 1 + ((D.l.map dtm).map Dm.sz).sum = _
    rw [List.map_map]
    have : D.l.map (Dm.sz ∘ dtm) = D.l.map Sx.sz := List.map_congr_left fun x hx => ih x (by have := Sx.sz_mem hx; omega)
    rw [this]
/-- All rows and texts in it are of at most so many. -/
inductive SmS (N : Nat) : Sx → Prop
  | mk {k : Int} {t : ByteArray} {n : Bool} {r : List Nat} {l : List Sx} {a : Int} {m s : List Int} (ht : t.size ≤ N) (hr : r.length ≤ N) (hl : l.length ≤ N) (hm : m.length ≤ N) (hs : s.length ≤ N) (hin : ∀ (i : Nat) (h : i < l.length), SmS N (l[i]'h)) : SmS N (.mk k t n r l a m s)
theorem SmS.open' {N : Nat} {D : Sx} (h : SmS N D) : D.t.size ≤ N ∧ D.r.length ≤ N ∧ D.l.length ≤ N ∧ D.m.length ≤ N ∧ D.s.length ≤ N ∧ ∀ (i : Nat) (h : i < D.l.length), SmS N (D.l[i]'h) := by
  cases h with
  | mk ht hr hl hm hs hin => exact ⟨ht, hr, hl, hm, hs, hin⟩
theorem SmS.mono {N M : Nat} {D : Sx} (h : SmS N D) (hle : N ≤ M) : SmS M D := by
  induction h with
  | mk ht hr hl hm hs hin ih => exact .mk (Nat.le_trans ht hle) (Nat.le_trans hr hle) (Nat.le_trans hl hle) (Nat.le_trans hm hle) (Nat.le_trans hs hle) ih
theorem SmS.dtm {N : Nat} {D : Sx} (h : SmS N D) : Sm N (dtm D) := by
  induction h with
  | mk ht hr hl hm hs hin ih =>
    rw [dtm_mk]
    refine .mk (by rw [byt_len]; exact ht) hr (by simpa using hl) fun i hi => ?_
    rw [List.getElem_map]
    exact ih i (by simpa using hi)
theorem SmS.owk {D : Sx} (h : SmS 1100000 D) : OwK D := by
  induction h with
  | mk ht hr hl hm hs hin ih => exact .mk hl hm hs (Nat.le_trans hr (by decide)) ih
/-- Has no piece in it too many limbs? -/
def lmsB : Sx → Bool
  | .mk _ _ _ r l _ _ _ => decide (r.length ≤ 64) && l.attach.all fun ⟨d, _⟩ => lmsB d
theorem lmsB_mk (k : Int) (t : ByteArray) (n : Bool) (r : List Nat) (l : List Sx) (a : Int) (m s : List Int) : lmsB (.mk k t n r l a m s) = (decide (r.length ≤ 64) && l.all lmsB) := by
  rw [lmsB]
  congr 1
  rw [Bool.eq_iff_iff, List.all_eq_true, List.all_eq_true]
  exact ⟨fun h x hx => h ⟨x, hx⟩ (List.mem_attach _ _), fun h x _ => h x.1 x.2⟩
theorem lmsB_yes {k : Int} {t : ByteArray} {n : Bool} {r : List Nat} {l : List Sx} {a : Int} {m s : List Int} (h : r.length ≤ 64) (h2 : ∀ (j : Nat) (hj : j < l.length), lmsB (l[j]'hj) = true) : lmsB (.mk k t n r l a m s) = true := by
  rw [lmsB_mk, Bool.and_eq_true, List.all_eq_true]
  refine ⟨decide_eq_true h, fun x hx => ?_⟩
  obtain ⟨j, hj, rfl⟩ := List.mem_iff_getElem.1 hx
  exact h2 j hj
theorem lmsB_not {k : Int} {t : ByteArray} {n : Bool} {r : List Nat} {l : List Sx} {a : Int} {m s : List Int} {j : Nat} (hj : j < l.length) (h : lmsB (l[j]'hj) = false) : lmsB (.mk k t n r l a m s) = false := by
  rw [lmsB_mk, Bool.and_eq_false_iff]
  right
  rw [List.all_eq_false]
  exact ⟨_, List.getElem_mem hj, by rw [h]; decide⟩
theorem lmsB_many {k : Int} {t : ByteArray} {n : Bool} {r : List Nat} {l : List Sx} {a : Int} {m s : List Int} (h : 64 < r.length) : lmsB (.mk k t n r l a m s) = false := by
  rw [lmsB_mk, Bool.and_eq_false_iff]
  left
  exact decide_eq_false (by omega)
def fewB (D : Sx) : Bool := decide (D.sz ≤ 8192) && lmsB D
/-- Is an Other in it? -/
def othB : Dm → Bool
  | .mk k _ _ _ l _ => decide (k = 11) || l.attach.any fun ⟨d, _⟩ => othB d
theorem othB_mk (k : Int) (t : List Nat) (n : Bool) (r : List Nat) (l : List Dm) (a : Int) : othB (.mk k t n r l a) = (decide (k = 11) || l.any othB) := by
  rw [othB]
  congr 1
  rw [Bool.eq_iff_iff, List.any_eq_true, List.any_eq_true]
  exact ⟨fun ⟨x, _, h⟩ => ⟨x.1, x.2, h⟩, fun ⟨x, hx, h⟩ => ⟨⟨x, hx⟩, List.mem_attach _ _, h⟩⟩
theorem othB_no {k : Int} {t : List Nat} {n : Bool} {r : List Nat} {l : List Dm} {a : Int} (h : k ≠ 11) (h2 : ∀ (j : Nat) (hj : j < l.length), othB (l[j]'hj) = false) : othB (.mk k t n r l a) = false := by
  rw [othB_mk, Bool.or_eq_false_iff]
  refine ⟨decide_eq_false h, ?_⟩
  rw [List.any_eq_false]
  intro x hx
  obtain ⟨j, hj, rfl⟩ := List.mem_iff_getElem.1 hx
  rw [h2 j hj]; decide
theorem othB_is {t : List Nat} {n : Bool} {r : List Nat} {l : List Dm} {a : Int} : othB (.mk 11 t n r l a) = true := by rw [othB_mk]; rfl
/-- What a wrap around comes to with a piece's own. -/
def innA (m s dm ds : List Int) : List Int × List Int × Int := if dm = [] ∧ ds = [] then (m, s, 0) else wjA m s dm ds
/-- May all wraps be, each with those around it? For the program. -/
def jnsB (m s : List Int) : Sx → Bool
  | .mk _ _ _ _ l _ dm ds => decide ((innA m s dm ds).2.2 = 0) && l.attach.all fun ⟨d, _⟩ => jnsB (innA m s dm ds).1 (innA m s dm ds).2.1 d
theorem jnsB_mk (m s : List Int) (k : Int) (t : ByteArray) (n : Bool) (r : List Nat) (l : List Sx) (a : Int) (dm ds : List Int) : jnsB m s (.mk k t n r l a dm ds) = (decide ((innA m s dm ds).2.2 = 0) && l.all (jnsB (innA m s dm ds).1 (innA m s dm ds).2.1)) := by
  rw [jnsB]
  congr 1
  rw [Bool.eq_iff_iff, List.all_eq_true, List.all_eq_true]
  exact ⟨fun h x hx => h ⟨x, hx⟩ (List.mem_attach _ _), fun h x _ => h x.1 x.2⟩
/-- The piece with its wraps at its Symbols. -/
def fltS (m s : List Int) : Sx → Sx
  | .mk k t n r l a dm ds => .mk k t n r (l.attach.map fun ⟨d, _⟩ => fltS (wjA m s dm ds).1 (wjA m s dm ds).2.1 d) a (if k = 4 then (wjA m s dm ds).1 else []) (if k = 4 then (wjA m s dm ds).2.1 else [])
theorem fltS_mk (m s : List Int) (k : Int) (t : ByteArray) (n : Bool) (r : List Nat) (l : List Sx) (a : Int) (dm ds : List Int) : fltS m s (.mk k t n r l a dm ds) = .mk k t n r (l.map (fltS (wjA m s dm ds).1 (wjA m s dm ds).2.1)) a (if k = 4 then (wjA m s dm ds).1 else []) (if k = 4 then (wjA m s dm ds).2.1 else []) := by
  rw [fltS, List.attach_map_val (l := l) (f := fltS (wjA m s dm ds).1 (wjA m s dm ds).2.1)]
theorem sndW_nil : sndW [] [] = true := by decide
theorem wjA_nil {m s : List Int} (h : sndW m s = true) : wjA m s [] [] = (m, s, 0) := by
  rw [joinA_ok h sndW_nil]
  have e : begB [] [] = false := by decide
  rw [e, Bool.and_false]
  have e2 : marryA false m s [] [] = (m, s) := by unfold marryA cutL cutF; simp
  rw [e2]
  refine closeA_ok ?_ (sndW_snd h)
  unfold sndW at h
  rw [Bool.and_eq_true] at h
  simpa using h.1
theorem innA_eq {m s dm ds : List Int} (h : sndW m s = true) : innA m s dm ds = wjA m s dm ds := by
  unfold innA
  split
  · next h2 => obtain ⟨rfl, rfl⟩ := h2; exact (wjA_nil h).symm
  · rfl
/-- Not too deep. -/
def dpB : Nat → Sx → Bool
  | 0, _ => false
  | f + 1, d => d.l.all (dpB f)
theorem dpB_yes {f : Nat} {D : Sx} (h : ∀ (j : Nat) (hj : j < D.l.length), dpB f (D.l[j]'hj) = true) : dpB (f + 1) D = true := by
  unfold dpB
  rw [List.all_eq_true]
  intro x hx
  obtain ⟨j, hj, rfl⟩ := List.mem_iff_getElem.1 hx
  exact h j hj
theorem okD_all {f : Nat} {D : Dm} (h : okD (f + 1) D = true) : ∀ x ∈ D.l, okD f x = true := by
  obtain ⟨k, t, n, r, l, a⟩ := D
  intro x hx
  have hx : x ∈ l := hx
  by_cases hk : k = 1 ∨ k = 2 ∨ k = 3
  · rw [okD_node hk] at h
    rw [Bool.and_eq_true] at h
    exact List.all_eq_true.1 h.2 x hx
  · exfalso
    have h0 : l.length = 0 := by
      by_cases h7 : k = 7
      · subst h7
        rw [okD_int, Bool.and_eq_true] at h
        simpa using h.2
      · rw [okD_leaf hk h7, Bool.and_eq_true] at h
        simpa using h.2
    rw [List.eq_nil_of_length_eq_zero h0] at hx
    cases hx
theorem okD_lms {f : Nat} {D : Dm} (h : okD f D = true) : D.r.length ≤ 64 := by
  cases f with
  | zero => cases h
  | succ f =>
    obtain ⟨k, t, n, r, l, a⟩ := D
    show r.length ≤ 64
    by_cases hk : k = 1 ∨ k = 2 ∨ k = 3
    · rw [okD_node hk] at h
      simp only [Bool.and_eq_true] at h
      have := h.1.1.2
      unfold blankA at this
      simp at this
      rw [this.2]; simp
    · by_cases h7 : k = 7
      · subst h7
        rw [okD_int] at h
        simp only [Bool.and_eq_true] at h
        have := h.1.2
        by_cases hs : Snd n r
        · exact hs.1
        · rw [sndB_false hs] at this; cases this
      · rw [okD_leaf hk h7] at h
        simp only [Bool.and_eq_true] at h
        have := h.1.2
        unfold blankA at this
        simp at this
        rw [this.2]; simp
theorem ok_deep : ∀ (f : Nat) (D : Sx), okD f (dtm D) = true → dpB f D = true ∧ lmsB D = true := by
  intro f
  induction f with
  | zero => intro D h; cases h
  | succ f ih =>
    intro D h
    have ha := okD_all h
    have hr := okD_lms h
    rw [dtm_eq] at ha hr
    have hr : D.r.length ≤ 64 := hr
    have ha : ∀ x ∈ D.l.map dtm, okD f x = true := ha
    have hx : ∀ x ∈ D.l, dpB f x = true ∧ lmsB x = true := fun x hx => ih x (ha _ (List.mem_map_of_mem hx))
    refine ⟨dpB_yes fun j hj => (hx _ (List.getElem_mem hj)).1, ?_⟩
    obtain ⟨k, t, n, r, l, a, m, s⟩ := D
    exact lmsB_yes hr fun j hj => (hx _ (List.getElem_mem hj)).2
/-- May a piece be? -/
noncomputable def sndX (D : Sx) : Bool := sndD (dtm D) && (!othB (dtm D) && jnsB [] [] D)
theorem sndX_few {D : Sx} (h : sndX D = true) : fewB D = true := by
  unfold sndX at h
  rw [Bool.and_eq_true] at h
  have h := h.1
  unfold sndD at h
  rw [Bool.and_eq_true] at h
  have h2 := of_decide_eq_true h.2
  rw [dtm_sz _ _ (Nat.le_refl _)] at h2
  unfold fewB
  rw [(ok_deep _ _ h.1).2, decide_eq_true h2]; rfl
end Go.Proofs.YtbfcbicbeagjkaaDoor
