/- Which datums may be. No walk here. | What the reader makes of words. No walk here. -/
import Derived.Test.YtocladhggcaokaaGreatDoorDm
import Derived.Test.YtocladhggcaokaaGreatDoorRSound
import Derived.Test.YtocladhggcaokaaGreatDoorTkMath
namespace Go.Proofs.YtocladhggcaokaaGreatDoor
open Go.RowKit

/-- No number's sign and limbs. -/
def blankA (n : Bool) (r : List Nat) : Bool := !n && decide (r.length = 0)
/-- Is a text one symbol? -/
noncomputable def symbA (t : List Nat) : Bool := match atmA t with
  | some d => decide (d.k = 4)
  | none => false
/-- How many characters a text has, if it may be one. -/
noncomputable def lenA (t : List Nat) : Option Nat := if 65536 < t.length then none else if (chars t 0).2 = none then some (chars t 0).1.length else none
/-- May a leaf but an integer have that text? -/
noncomputable def wrtA (k : Int) (t : List Nat) : Bool :=
  if k = 4 then symbA t else if k = 5 then (match lenA t with | some n => decide (n ≤ 4096) | none => false) else if k = 6 then (match lenA t with | some n => decide (n = 1) | none => false)
  else if k = 8 ∨ k = 9 ∨ k = 10 then decide (t = []) else decide (k = 11)
/-- Has a list with a dot what it needs? -/
def endA (k : Int) (l : List Dm) : Bool := if k = 2 then match l.getLast? with
    | some x => decide (2 ≤ l.length) && !decide (x.k = 1 ∨ x.k = 2)
    | none => false
  else true
/-- May a datum be, if it is of at most so many levels? -/
noncomputable def okD : Nat → Dm → Bool
  | 0, _ => false
  | f + 1, d =>
    if d.k = 1 ∨ d.k = 2 ∨ d.k = 3 then decide (d.t = []) && blankA d.n d.r && endA d.k d.l && d.l.all (okD f)
    else if d.k = 7 then decide (d.t = []) && sndB d.n d.r && decide (d.l.length = 0)
    else wrtA d.k d.t && blankA d.n d.r && decide (d.l.length = 0)
/-- May it be? -/
noncomputable def sndD (d : Dm) : Bool := okD 64 d && decide (d.sz ≤ 8192)
theorem okD_zero (d : Dm) : okD 0 d = false := rfl
theorem okD_node {f : Nat} {k : Int} {t : List Nat} {n : Bool} {r : List Nat} {l : List Dm} {a : Int} (hk : k = 1 ∨ k = 2 ∨ k = 3) : okD (f + 1) (.mk k t n r l a) = (decide (t = []) && blankA n r && endA k l && l.all (okD f)) := by
  unfold okD
  exact if_pos hk
theorem okD_int {f : Nat} {t : List Nat} {n : Bool} {r : List Nat} {l : List Dm} {a : Int} : okD (f + 1) (.mk 7 t n r l a) = (decide (t = []) && sndB n r && decide (l.length = 0)) := by
  unfold okD
  show (if (7 : Int) = 1 ∨ (7 : Int) = 2 ∨ (7 : Int) = 3 then _ else if (7 : Int) = 7 then _ else _) = _
  rw [if_neg (by omega), if_pos rfl]
  rfl
theorem okD_leaf {f : Nat} {k : Int} {t : List Nat} {n : Bool} {r : List Nat} {l : List Dm} {a : Int} (hk : ¬ (k = 1 ∨ k = 2 ∨ k = 3)) (h7 : k ≠ 7) : okD (f + 1) (.mk k t n r l a) = (wrtA k t && blankA n r && decide (l.length = 0)) := by
  unfold okD
  show (if k = 1 ∨ k = 2 ∨ k = 3 then _ else if k = 7 then _ else _) = _
  rw [if_neg hk, if_neg h7]
  rfl
theorem sz_pos (d : Dm) : 1 ≤ d.sz := by rw [Dm.sz_eq]; omega
/-- How many the first i of a list are. -/
def szs (l : List Dm) (i : Nat) : Nat := ((l.take i).map Dm.sz).sum
theorem szs_zero (l : List Dm) : szs l 0 = 0 := by simp [szs]
theorem szs_succ {l : List Dm} {i : Nat} (h : i < l.length) : szs l (i + 1) = szs l i + (l[i]'h).sz := by
  unfold szs
  rw [List.take_add_one, List.getElem?_eq_getElem h, List.map_append, List.sum_append]
  simp
theorem szs_all (l : List Dm) : szs l l.length = (l.map Dm.sz).sum := by simp [szs]
theorem szs_mono {l : List Dm} : ∀ {j i : Nat}, i ≤ j → j ≤ l.length → szs l i ≤ szs l j := by
  intro j
  induction j with
  | zero => intro i h _; obtain rfl : i = 0 := by omega
            exact Nat.le_refl _
  | succ j ih =>
    intro i h hj
    rcases Nat.lt_or_ge j i with h2 | h2
    · obtain rfl : i = j + 1 := by omega
      exact Nat.le_refl _
    · rw [szs_succ (by omega)]
      have := ih h2 (by omega)
      omega
theorem szs_le_sz {k : Int} {t : List Nat} {n : Bool} {r : List Nat} {l : List Dm} {a : Int} {i : Nat} (h : i ≤ l.length) : 1 + szs l i ≤ (Dm.mk k t n r l a).sz := by
  rw [Dm.sz_eq]
  have := szs_mono h (Nat.le_refl _) (l := l)
  rw [szs_all] at this
  exact Nat.add_le_add_left this 1
theorem sz_node {k : Int} {t : List Nat} {n : Bool} {r : List Nat} {l : List Dm} {a : Int} : (Dm.mk k t n r l a).sz = 1 + szs l l.length := by rw [Dm.sz_eq, szs_all]; rfl
theorem all_upto {p : Dm → Bool} {l : List Dm} (h : ∀ (j : Nat) (hj : j < l.length), p (l[j]'hj) = true) : l.all p = true := by
  rw [List.all_eq_true]
  intro x hx
  obtain ⟨j, hj, rfl⟩ := List.mem_iff_getElem.1 hx
  exact h j hj
theorem all_not {p : Dm → Bool} {l : List Dm} {j : Nat} (hj : j < l.length) (h : p (l[j]'hj) = false) : l.all p = false := by
  rw [List.all_eq_false]
  exact ⟨l[j], List.getElem_mem hj, by simp [h]⟩
theorem light_mem {f : Nat} {k : Int} {t : List Nat} {n : Bool} {r : List Nat} {l : List Dm} {a : Int} (h : lightA (f + 1) (.mk k t n r l a) = true) : l.length ≤ 9000 ∧ ∀ (j : Nat) (hj : j < l.length), lightA f (l[j]'hj) = true := by
  unfold lightA at h
  simp only [Bool.and_eq_true, decide_eq_true_iff, List.all_eq_true] at h
  exact ⟨h.1, fun j hj => h.2 _ (List.getElem_mem hj)⟩
theorem light_zero (d : Dm) : lightA 0 d = false := rfl
theorem light_long {f : Nat} {k : Int} {t : List Nat} {n : Bool} {r : List Nat} {l : List Dm} {a : Int} (h : 9000 < l.length) : lightA (f + 1) (.mk k t n r l a) = false := by
  unfold lightA
  have : decide ((Dm.mk k t n r l a).l.length ≤ 9000) = false := by
    rw [decide_eq_false_iff_not]
    show ¬ l.length ≤ 9000
    omega
  rw [this]; rfl
theorem light_not {f : Nat} {k : Int} {t : List Nat} {n : Bool} {r : List Nat} {l : List Dm} {a : Int} {j : Nat} (hj : j < l.length) (h : lightA f (l[j]'hj) = false) : lightA (f + 1) (.mk k t n r l a) = false := by
  unfold lightA
  have := all_not (p := lightA f) hj h
  show (_ && l.all (lightA f)) = false
  rw [this, Bool.and_false]
theorem light_yes {f : Nat} {k : Int} {t : List Nat} {n : Bool} {r : List Nat} {l : List Dm} {a : Int} (h : l.length ≤ 9000) (h2 : ∀ (j : Nat) (hj : j < l.length), lightA f (l[j]'hj) = true) : lightA (f + 1) (.mk k t n r l a) = true := by
  unfold lightA
  show (decide (l.length ≤ 9000) && l.all (lightA f)) = true
  rw [all_upto h2]
  simpa using h
end Go.Proofs.YtocladhggcaokaaGreatDoor
namespace Go.Proofs.YtocladhggcaokaaGreatDoor
open Go.RowKit

/-- What has no end yet: what it begins with, what stands in it, and how many ahead of its dot. -/
structure Pt where
  w : Wd
  l : List Dm
  dot : Nat
def zW : Wd := ⟨0, [], zD, 0, 0⟩
def zP : Pt := ⟨zW, [], 0⟩
def lacksA (p : Pt) : Bool := decide (0 < p.dot) && decide (p.l.length = p.dot)
def fullA (p : Pt) : Bool := decide (0 < p.dot) && decide (p.dot < p.l.length)
/-- How deep the innermost of what is open is. -/
def deepA (ps : List Pt) : Nat := ps.countP fun p => decide (p.w.kind ≠ 0 ∧ p.w.kind ≠ 5)
/-- A list with a dot. -/
def joinA (first : List Dm) (last : Dm) (a : Int) : Dm := if last.k = 1 ∨ last.k = 2 then .mk last.k [] false [] (first ++ last.l) a else .mk 2 [] false [] (first ++ [last]) a
/-- The list or vector that a part is. -/
def datA (p : Pt) : Dm :=
  if p.w.kind = 3 then .mk 3 [] false [] p.l (p.w.pl : Nat)
  else if 0 < p.dot then (match p.l[p.dot]? with | some last => joinA (p.l.take p.dot) last (p.w.pl : Nat) | none => .mk 1 [] false [] p.l (p.w.pl : Nat))
  else .mk 1 [] false [] p.l (p.w.pl : Nat)
def abbA (w : Wd) (d : Dm) : Dm := .mk 1 [] false [] [.mk 4 w.txt false [] [] (w.pl : Nat), d] (w.pl : Nat)
/-- Puts a whole datum where it stands; the innermost one first. -/
def addA : List Pt → Dm → List Pt
  | [], _ => []
  | p :: ps, d => if p.w.kind = 6 then addA ps (abbA p.w d) else if p.w.kind = 5 then ps else { p with l := p.l ++ [d] } :: ps
def leafD (w : Wd) : Dm := .mk (w.d.k : Nat) w.d.t w.d.n w.d.r [] (w.dat : Nat)
/-- How many datums a word begins. -/
def szW (w : Wd) : Nat := if w.kind = 6 then 2 else 1
/-- What the next word does: how many datums have begun, and what is open, or an error. -/
def takeA (depth : Nat) (count : Nat) (ps : List Pt) (w : Wd) : Except Nat (Nat × List Pt) :=
  match ps with
  | [] => .error 3
  | p :: rest =>
    if w.kind = 2 then if (p.w.kind ≠ 1 ∧ p.w.kind ≠ 3) ∨ lacksA p = true then .error 3 else .ok (count, addA rest (datA p))
    else if w.kind = 4 then if p.w.kind ≠ 1 ∨ p.l.length = 0 ∨ 0 < p.dot then .error 3 else .ok (count, { p with dot := p.l.length } :: rest)
    else if w.kind = 5 then .ok (count, ⟨w, [], 0⟩ :: ps)
    else if fullA p = true then .error 3
    else if depth < deepA ps + szW w then .error 5
    else if 8192 < count + szW w then .error 6
    else if w.kind = 7 then .ok (count + 1, addA ps (leafD w)) else .ok (count + szW w, ⟨w, [], 0⟩ :: ps)
/-- What words do, one by one; beside an error where it is. -/
def takesA (depth : Nat) : Nat → List Pt → List Wd → Except (Nat × Nat) (List Pt)
  | _, ps, [] => .ok ps
  | count, ps, w :: ws => match takeA depth count ps w with
    | .error e => .error (w.pl, e)
    | .ok (c, qs) => takesA depth c qs ws
/-- What words are read as, in a text of so many characters. -/
def wordsA (depth : Nat) (len : Nat) (ws : List Wd) : List Dm × Nat × Nat :=
  match takesA depth 0 [zP] ws with
  | .error (at', e) => ([], at', e)
  | .ok ps => match ps with
    | [p] => (p.l, 0, 0)
    | _ => ([], len, 3)
/-- What stays true of what is open: the text at the bottom, and there alone. -/
def Base (ps : List Pt) : Prop := ∃ qs p, ps = qs ++ [p] ∧ p.w.kind = 0 ∧ (∀ q ∈ qs, q.w.kind ≠ 0) ∧ p.dot = 0
theorem addA_ne {ps : List Pt} (h : Base ps) (d : Dm) : Base (addA ps d) := by
  obtain ⟨qs, p, rfl, h0, hq, hd⟩ := h
  induction qs generalizing d with
  | nil =>
    refine ⟨[], { p with l := p.l ++ [d] }, ?_, h0, fun q h => (by cases h), hd⟩
    simp [addA, h0]
  | cons x qs ih =>
    have hq' : ∀ q ∈ qs, q.w.kind ≠ 0 := fun q h => hq q (List.mem_cons_of_mem _ h)
    show Base (if x.w.kind = 6 then addA (qs ++ [p]) (abbA x.w d) else if x.w.kind = 5 then qs ++ [p] else { x with l := x.l ++ [d] } :: (qs ++ [p]))
    split
    · exact ih _ hq'
    · split
      · exact ⟨qs, p, rfl, h0, hq', hd⟩
      · refine ⟨{ x with l := x.l ++ [d] } :: qs, p, rfl, h0, fun q h => ?_, hd⟩
        rcases List.mem_cons.1 h with rfl | h
        · exact hq x (by simp)
        · exact hq' q h
theorem Base.cons {p : Pt} {ps : List Pt} (h : Base ps) (hp : p.w.kind ≠ 0) : Base (p :: ps) := by
  obtain ⟨qs, q, rfl, h0, hq, hd⟩ := h
  refine ⟨p :: qs, q, rfl, h0, fun x hx => ?_, hd⟩
  rcases List.mem_cons.1 hx with rfl | hx
  · exact hp
  · exact hq x hx
theorem Base.tail {p : Pt} {ps : List Pt} (h : Base (p :: ps)) (hp : p.w.kind ≠ 0) : Base ps := by
  obtain ⟨qs, q, e, h0, hq, hd⟩ := h
  cases qs with
  | nil => simp at e; rw [e.1] at hp; exact absurd h0 hp
  | cons x qs =>
    simp only [List.cons_append, List.cons.injEq] at e
    exact ⟨qs, q, e.2, h0, fun y hy => hq y (List.mem_cons_of_mem _ hy), hd⟩
theorem Base.ne {ps : List Pt} (h : Base ps) : ps ≠ [] := by obtain ⟨qs, q, rfl, _⟩ := h; simp
theorem Base.set {p q : Pt} {ps : List Pt} (h : Base (p :: ps)) (hk : q.w.kind = p.w.kind) (hd : p.w.kind = 0 → q.dot = 0) : Base (q :: ps) := by
  obtain ⟨qs, x, e, h0, hq, hx⟩ := h
  cases qs with
  | nil =>
    simp only [List.nil_append, List.cons.injEq] at e
    obtain ⟨rfl, rfl⟩ := e
    exact ⟨[], q, rfl, by rw [hk]; exact h0, fun y hy => (by cases hy), hd h0⟩
  | cons y qs =>
    simp only [List.cons_append, List.cons.injEq] at e
    obtain ⟨rfl, rfl⟩ := e
    refine ⟨q :: qs, x, rfl, h0, fun z hz => ?_, hx⟩
    rcases List.mem_cons.1 hz with rfl | hz
    · rw [hk]; exact hq p (by simp)
    · exact hq z (List.mem_cons_of_mem _ hz)
theorem Base.zero : Base [zP] := ⟨[], zP, rfl, rfl, fun q h => (by cases h), rfl⟩
theorem takeA_base {depth count : Nat} {ps : List Pt} {w : Wd} {c : Nat} {qs : List Pt} (h : Base ps) (hw : w.kind ≠ 0) (e : takeA depth count ps w = .ok (c, qs)) : Base qs := by
  cases ps with
  | nil => exact absurd rfl h.ne
  | cons p rest =>
    unfold takeA at e
    simp only at e
    repeat' split at e
    all_goals first
      | (cases e; done)
      | (injection e with e; injection e with _ e; subst e)
    · rename_i h1 h2
      exact addA_ne (h.tail (by intro h0; rw [h0] at h1; exact h1 (.inl (by omega)))) _
    · rename_i h1 h2 h3
      exact h.set rfl fun h0 => by rw [h0] at h2; exact absurd (.inl (by omega)) h2
    · exact h.cons hw
    · exact addA_ne h _
    · exact h.cons hw
/-- How many datums what is open is, and is in it. -/
def ownA (p : Pt) : Nat := if p.w.kind = 1 ∨ p.w.kind = 3 then 1 else if p.w.kind = 6 then 2 else 0
def sumA (l : List Dm) : Nat := (l.map Dm.sz).sum
def wtA : List Pt → Nat
  | [] => 0
  | p :: ps => ownA p + sumA p.l + wtA ps
theorem sumA_app (l m : List Dm) : sumA (l ++ m) = sumA l + sumA m := by simp [sumA]
theorem sumA_one (d : Dm) : sumA [d] = d.sz := by simp [sumA]
theorem sumA_len (l : List Dm) : l.length ≤ sumA l := by
  induction l with
  | nil => simp [sumA]
  | cons d l ih =>
    have := sz_pos d
    simp only [sumA, List.map_cons, List.sum_cons, List.length_cons] at ih ⊢
    omega
theorem sz_sumA (k : Int) (t : List Nat) (n : Bool) (r : List Nat) (l : List Dm) (a : Int) : (Dm.mk k t n r l a).sz = 1 + sumA l := by rw [Dm.sz_eq]; rfl
theorem sz_sumA' (d : Dm) : d.sz = 1 + sumA d.l := by rw [Dm.sz_eq]; rfl
theorem joinA_sz (first : List Dm) (last : Dm) (a : Int) : (joinA first last a).sz ≤ 1 + sumA first + last.sz := by
  unfold joinA
  split
  · rw [sz_sumA, sumA_app, sz_sumA' last]; omega
  · rw [sz_sumA, sumA_app, sumA_one]; omega
theorem datA_sz (p : Pt) : (datA p).sz ≤ 1 + sumA p.l := by
  unfold datA
  split
  · rw [sz_sumA]; exact Nat.le_refl _
  · split
    · split
      · rename_i last h
        refine Nat.le_trans (joinA_sz _ _ _) ?_
        have h1 : p.dot < p.l.length := (List.getElem?_eq_some_iff.1 h).1
        have h2 : p.l[p.dot]'h1 = last := (List.getElem?_eq_some_iff.1 h).2
        have h3 : p.l = p.l.take p.dot ++ [last] ++ p.l.drop (p.dot + 1) := by
          rw [← h2, List.append_assoc, List.singleton_append, List.getElem_cons_drop, List.take_append_drop]
        have h4 : sumA p.l = sumA (p.l.take p.dot) + last.sz + sumA (p.l.drop (p.dot + 1)) := by
          conv => lhs; rw [h3]
          rw [sumA_app, sumA_app, sumA_one]
        omega
      · rw [sz_sumA]; exact Nat.le_refl _
    · rw [sz_sumA]; exact Nat.le_refl _
theorem addA_wt (ps : List Pt) (d : Dm) : wtA (addA ps d) ≤ wtA ps + d.sz := by
  induction ps generalizing d with
  | nil => exact Nat.zero_le _
  | cons p ps ih =>
    show wtA (if p.w.kind = 6 then addA ps (abbA p.w d) else if p.w.kind = 5 then ps else { p with l := p.l ++ [d] } :: ps) ≤ ownA p + sumA p.l + wtA ps + d.sz
    split
    · rename_i h
      refine Nat.le_trans (ih _) ?_
      have h1 : ownA p = 2 := by simp [ownA, h]
      have h2 : (abbA p.w d).sz = 2 + d.sz := by
        unfold abbA
        rw [sz_sumA]
        simp only [sumA, List.map_cons, List.sum_cons, List.map_nil, List.sum_nil, sz_sumA]
        omega
      omega
    · split
      · omega
      · show ownA { p with l := p.l ++ [d] } + sumA (p.l ++ [d]) + wtA ps ≤ _
        rw [sumA_app, sumA_one]
        have : ownA { p with l := p.l ++ [d] } = ownA p := rfl
        omega
theorem takeA_wt {depth count : Nat} {ps : List Pt} {w : Wd} {c : Nat} {qs : List Pt} (h : wtA ps ≤ count) (h2 : count ≤ 8192) (e : takeA depth count ps w = .ok (c, qs)) : wtA qs ≤ c ∧ c ≤ 8192 ∧ count ≤ c := by
  cases ps with
  | nil => unfold takeA at e; cases e
  | cons p rest =>
    have hw : wtA (p :: rest) = ownA p + sumA p.l + wtA rest := rfl
    unfold takeA at e
    simp only at e
    repeat' split at e
    all_goals first
      | (cases e; done)
      | (injection e with e; injection e with e1 e; subst e; subst e1)
    · rename_i h1 h3
      have h4 := addA_wt rest (datA p)
      have h5 := datA_sz p
      have h6 : ownA p = 1 := by
        have : p.w.kind = 1 ∨ p.w.kind = 3 := by
          by_cases hk : p.w.kind = 1
          · exact .inl hk
          · by_cases hk3 : p.w.kind = 3
            · exact .inr hk3
            · exact absurd (.inl ⟨hk, hk3⟩) h3
        simp [ownA, this]
      omega
    · exact ⟨h, h2, Nat.le_refl _⟩
    · rename_i h1 h3 h5
      have : ownA ⟨w, [], 0⟩ = 0 := by simp [ownA, h5]
      have h7 : wtA (⟨w, [], 0⟩ :: p :: rest) = ownA ⟨w, [], 0⟩ + sumA [] + wtA (p :: rest) := rfl
      have h8 : sumA [] = 0 := rfl
      omega
    · rename_i h7
      have h4 := addA_wt (p :: rest) (leafD w)
      have h5 : (leafD w).sz = 1 := by unfold leafD; rw [sz_sumA]; rfl
      have h6 : szW w = 1 := by unfold szW; rw [if_neg (by omega)]
      omega
    · rename_i h7
      have h9 : wtA (⟨w, [], 0⟩ :: p :: rest) = ownA ⟨w, [], 0⟩ + sumA [] + wtA (p :: rest) := rfl
      have h8 : sumA [] = 0 := rfl
      have h10 : ownA ⟨w, [], 0⟩ ≤ szW w := by
        unfold ownA szW
        simp only
        repeat' split
        all_goals omega
      omega
theorem wtA_mem {p : Pt} : ∀ {ps : List Pt}, p ∈ ps → p.l.length ≤ wtA ps
  | [], h => by cases h
  | q :: ps, h => by
    have h1 := sumA_len q.l
    show _ ≤ ownA q + sumA q.l + wtA ps
    rcases List.mem_cons.1 h with rfl | h
    · omega
    · have := wtA_mem h
      omega
end Go.Proofs.YtocladhggcaokaaGreatDoor
