/- Whether two values are the same, by a list of pairs that are still to be looked at; and why to look into each pair only once says as much. No walk here. -/
import Derived.Test.YtimnhbndokfgnaaSmEqv2
import Derived.Test.YtimnhbndokfgnaaSmCmp
namespace Go.Proofs.Ytimnhbndokfgnaa
open Go.RowKit

abbrev Pr := (Int × Int) × (Int × Int)
def St.kid (s : St) (p : Pr) (i : Nat) : Pr := ((s.get p.1 ((i : Nat) : Int)).1, (s.get p.2 ((i : Nat) : Int)).1)
def St.kids (s : St) (p : Pr) : List Pr := (List.range (s.len p.1)).map (s.kid p)
theorem kids_len (s : St) (p : Pr) : (s.kids p).length = s.len p.1 := by simp [St.kids]
theorem kids_drop {s : St} {p : Pr} {i : Nat} (h : i < s.len p.1) : (s.kids p).drop i = s.kid p i :: (s.kids p).drop (i + 1) := by
  rw [List.drop_eq_getElem_cons (by rw [kids_len]; exact h)]
  simp [St.kids]
theorem kids_take {s : St} {p : Pr} {i : Nat} (h : i < s.len p.1) : (s.kids p).take (i + 1) = (s.kids p).take i ++ [s.kid p i] := by
  rw [List.take_succ_eq_append_getElem (by rw [kids_len]; exact h)]
  simp [St.kids]
theorem kids_all (s : St) (p : Pr) : (s.kids p).take (s.len p.1) = s.kids p := by rw [← kids_len]; exact List.take_length

/-- Are all of these the same, and what is left? (none: there was not enough.) -/
def St.rEq (s : St) : Nat → List Pr → Option (Bool × Nat)
  | f, [] => some (true, f)
  | 0, _ :: _ => none
  | f + 1, p :: l => if s.eqvA p.1 p.2 = true then s.rEq f l else if s.compA p.1 p.2 = true then s.rEq f (s.kids p ++ l) else some (false, f)
theorem rEq_nil (s : St) (f : Nat) : s.rEq f [] = some (true, f) := by cases f <;> rfl
theorem rEq_zero (s : St) (p : Pr) (l : List Pr) : s.rEq 0 (p :: l) = none := rfl
theorem rEq_eqv {s : St} {p : Pr} (h : s.eqvA p.1 p.2 = true) (f : Nat) (l : List Pr) : s.rEq (f + 1) (p :: l) = s.rEq f l := by rw [St.rEq, if_pos h]
theorem rEq_in {s : St} {p : Pr} (h : s.eqvA p.1 p.2 = false) (h2 : s.compA p.1 p.2 = true) (f : Nat) (l : List Pr) : s.rEq (f + 1) (p :: l) = s.rEq f (s.kids p ++ l) := by rw [St.rEq, if_neg (by rw [h]; simp), if_pos h2]
theorem rEq_no {s : St} {p : Pr} (h : s.eqvA p.1 p.2 = false) (h2 : s.compA p.1 p.2 = false) (f : Nat) (l : List Pr) : s.rEq (f + 1) (p :: l) = some (false, f) := by rw [St.rEq, if_neg (by rw [h]; simp), if_neg (by rw [h2]; simp)]

/-- These take just so much. -/
def St.Tk (s : St) (ps : List Pr) (c : Nat) : Prop := (∀ l f, s.rEq (f + c) (ps ++ l) = s.rEq f l) ∧ ∀ l f, f < c → s.rEq f (ps ++ l) = none
theorem Tk_nil (s : St) : s.Tk [] 0 := ⟨fun _ _ => rfl, fun _ _ h => absurd h (Nat.not_lt_zero _)⟩
theorem Tk_append {s : St} {ps qs : List Pr} {c d : Nat} (h : s.Tk ps c) (h2 : s.Tk qs d) : s.Tk (ps ++ qs) (c + d) := by
  refine ⟨fun l f => ?_, fun l f hf => ?_⟩
  · rw [List.append_assoc, show f + (c + d) = f + d + c by omega, h.1, h2.1]
  · rw [List.append_assoc]
    rcases Nat.lt_or_ge f c with hc | hc
    · exact h.2 _ _ hc
    · obtain ⟨f', rfl⟩ : ∃ f', f = f' + c := ⟨f - c, by omega⟩
      rw [h.1]
      exact h2.2 _ _ (by omega)
theorem Tk_eqv {s : St} {p : Pr} (h : s.eqvA p.1 p.2 = true) : s.Tk [p] 1 := by
  refine ⟨fun l f => rEq_eqv h f l, fun l f hf => ?_⟩
  obtain rfl : f = 0 := by omega
  rfl
theorem Tk_in {s : St} {p : Pr} {c : Nat} (h : s.eqvA p.1 p.2 = false) (h2 : s.compA p.1 p.2 = true) (hk : s.Tk (s.kids p) c) : s.Tk [p] (c + 1) := by
  refine ⟨fun l f => ?_, fun l f hf => ?_⟩
  · rw [← Nat.add_assoc, List.singleton_append, rEq_in h h2, hk.1]
  · cases f with
    | zero => rfl
    | succ f => rw [List.singleton_append, rEq_in h h2]; exact hk.2 _ _ (by omega)

/-- q comes up behind p, with something taken. -/
def St.Wi (s : St) (p q : Pr) : Prop := ∃ d r, 0 < d ∧ (∀ l f, s.rEq (f + d) (p :: l) = s.rEq f (q :: (r ++ l))) ∧ ∀ l f, f < d → s.rEq f (p :: l) = none
theorem Wi_trans {s : St} {p q r : Pr} (h : s.Wi p q) (h2 : s.Wi q r) : s.Wi p r := by
  obtain ⟨d, u, hd, h3, h4⟩ := h
  obtain ⟨e, v, he, h5, h6⟩ := h2
  refine ⟨d + e, v ++ u, by omega, fun l f => ?_, fun l f hf => ?_⟩
  · rw [show f + (d + e) = f + e + d by omega, h3, h5, List.append_assoc]
  · rcases Nat.lt_or_ge f d with hc | hc
    · exact h4 _ _ hc
    · obtain ⟨f', rfl⟩ : ∃ f', f = f' + d := ⟨f - d, by omega⟩
      rw [h3]
      exact h6 _ _ (by omega)
theorem Wi_self {s : St} {p : Pr} (h : s.Wi p p) : ∀ f l, s.rEq f (p :: l) = none := by
  obtain ⟨d, u, hd, h3, h4⟩ := h
  intro f
  induction f using Nat.strongRecOn with
  | _ f ih =>
    intro l
    rcases Nat.lt_or_ge f d with hc | hc
    · exact h4 _ _ hc
    · obtain ⟨f', rfl⟩ : ∃ f', f = f' + d := ⟨f - d, by omega⟩
      rw [h3]
      exact ih f' (by omega) _
theorem Wi_kid {s : St} {p : Pr} {i c : Nat} (h : s.eqvA p.1 p.2 = false) (h2 : s.compA p.1 p.2 = true) (hi : i < s.len p.1) (hk : s.Tk ((s.kids p).take i) c) : s.Wi p (s.kid p i) := by
  refine ⟨c + 1, (s.kids p).drop (i + 1), by omega, fun l f => ?_, fun l f hf => ?_⟩
  · have e : s.kids p ++ l = (s.kids p).take i ++ (s.kid p i :: ((s.kids p).drop (i + 1) ++ l)) := by
      rw [← List.cons_append, ← kids_drop hi, ← List.append_assoc, List.take_append_drop]
    rw [← Nat.add_assoc, rEq_in h h2, e, hk.1]
  · cases f with
    | zero => rfl
    | succ f =>
      have e : s.kids p ++ l = (s.kids p).take i ++ ((s.kids p).drop i ++ l) := by rw [← List.append_assoc, List.take_append_drop]
      rw [rEq_in h h2, e]
      exact hk.2 _ _ (by omega)

/-- A pair that is being looked into. -/
structure Vis where
  p : Pr
  n : Nat
  nx : Nat
  fu : Nat
/-- What is still to be looked at; the innermost first. -/
def St.rem (s : St) : List Vis → List Pr
  | [] => []
  | v :: vs => (s.kids v.p).drop v.nx ++ s.rem vs
/-- q is the pair that the innermost has come to, and so on outwards. -/
def St.Ch (s : St) : Pr → Nat → List Vis → Prop
  | _, _, [] => True
  | q, f, v :: vs => (s.eqvA v.p.1 v.p.2 = false ∧ s.compA v.p.1 v.p.2 = true ∧ v.n = s.len v.p.1) ∧ (∃ i c, v.nx = i + 1 ∧ i < v.n ∧ s.kid v.p i = q ∧ s.Tk ((s.kids v.p).take i) c ∧ v.fu = f + 1 + c) ∧ s.Ch v.p v.fu vs
def St.Memo (s : St) (vs : List Vis) (tk : Pr → Option Int) : Prop := ∀ p c, tk p = some c → (∃ k : Nat, c = (k : Int) ∧ s.Tk [p] k) ∨ (c = 9223372036854775807 ∧ ∃ v ∈ vs, v.p = p)
/-- Ahead of a look at q. -/
structure St.Pend (s : St) (F : Nat) (p0 q : Pr) (f : Nat) (vs : List Vis) (tk : Pr → Option Int) : Prop where
  eq : s.rEq F [p0] = s.rEq f (q :: s.rem vs)
  ch : s.Ch q f vs
  memo : s.Memo vs tk
  bd : f ≤ F ∧ ∀ v ∈ vs, v.fu ≤ F
/-- Behind it. -/
structure St.Inv (s : St) (F : Nat) (p0 : Pr) (f : Nat) (vs : List Vis) (tk : Pr → Option Int) : Prop where
  eq : s.rEq F [p0] = s.rEq f (s.rem vs)
  ch : match vs with
    | [] => True
    | v :: vs => (s.eqvA v.p.1 v.p.2 = false ∧ s.compA v.p.1 v.p.2 = true ∧ v.n = s.len v.p.1) ∧ (∃ c, v.nx ≤ v.n ∧ s.Tk ((s.kids v.p).take v.nx) c ∧ v.fu = f + 1 + c) ∧ s.Ch v.p v.fu vs
  memo : s.Memo vs tk
  bd : f ≤ F ∧ ∀ v ∈ vs, v.fu ≤ F
def putT (tk : Pr → Option Int) (p : Pr) (c : Int) : Pr → Option Int := fun q => if q = p then some c else tk q
theorem Ch_wi {s : St} : ∀ {vs : List Vis} {q : Pr} {f : Nat}, s.Ch q f vs → ∀ v ∈ vs, s.Wi v.p q
  | [], _, _, _, v, hv => by cases hv
  | u :: us, q, f, h, v, hv => by
    obtain ⟨⟨h1, h2, h3⟩, ⟨i, c, h4, h5, h6, h7, h8⟩, h9⟩ := h
    have hw : s.Wi u.p q := h6 ▸ Wi_kid h1 h2 (h3 ▸ h5) h7
    rcases List.mem_cons.1 hv with rfl | hv
    · exact hw
    · exact Wi_trans (Ch_wi h9 v hv) hw
theorem St.Pend.start (s : St) (F : Nat) (p0 : Pr) : s.Pend F p0 p0 F [] fun _ => none := ⟨rfl, trivial, fun p c h => (by cases h), Nat.le_refl _, fun v hv => (by cases hv)⟩
/-- What was looked at is the same, and took c. -/
theorem St.Pend.took {s : St} {F : Nat} {p0 q : Pr} {f c : Nat} {vs : List Vis} {tk : Pr → Option Int} (h : s.Pend F p0 q (f + c) vs tk) (hc : s.Tk [q] c) : s.Inv F p0 f vs tk := by
  refine ⟨?_, ?_, h.memo, by have := h.bd.1; omega, h.bd.2⟩
  · rw [h.eq]; exact hc.1 _ _
  · cases vs with
    | nil => trivial
    | cons v vs =>
      obtain ⟨h1, ⟨i, d, h4, h5, h6, h7, h8⟩, h9⟩ := h.ch
      refine ⟨h1, ⟨d + c, by omega, ?_, by omega⟩, h9⟩
      rw [h4, kids_take (h1.2.2 ▸ h5), h6]
      exact Tk_append h7 hc
theorem St.Pend.eqv {s : St} {F : Nat} {p0 q : Pr} {f : Nat} {vs : List Vis} {tk : Pr → Option Int} (h : s.Pend F p0 q (f + 1) vs tk) (hq : s.eqvA q.1 q.2 = true) : s.Inv F p0 f vs tk := h.took (Tk_eqv hq)
theorem St.Pend.no {s : St} {F : Nat} {p0 q : Pr} {f : Nat} {vs : List Vis} {tk : Pr → Option Int} (h : s.Pend F p0 q (f + 1) vs tk) (hq : s.eqvA q.1 q.2 = false) (h2 : s.compA q.1 q.2 = false) : s.rEq F [p0] = some (false, f) := by rw [h.eq, rEq_no hq h2]
theorem St.Pend.out {s : St} {F : Nat} {p0 q : Pr} {vs : List Vis} {tk : Pr → Option Int} (h : s.Pend F p0 q 0 vs tk) : s.rEq F [p0] = none := by rw [h.eq]; rfl
theorem St.Pend.enter {s : St} {F : Nat} {p0 q : Pr} {f : Nat} {vs : List Vis} {tk : Pr → Option Int} (h : s.Pend F p0 q (f + 1) vs tk) (hq : s.eqvA q.1 q.2 = false) (h2 : s.compA q.1 q.2 = true) : s.Inv F p0 f (⟨q, s.len q.1, 0, f + 1⟩ :: vs) (putT tk q 9223372036854775807) := by
  refine ⟨?_, ⟨⟨hq, h2, rfl⟩, ⟨0, Nat.zero_le _, Tk_nil s, rfl⟩, h.ch⟩, fun p c hp => ?_, by have := h.bd.1; omega, fun v hv => ?_⟩
  · rw [h.eq, rEq_in hq h2]; rfl
  · unfold putT at hp
    split at hp
    · rename_i e
      injection hp with hp
      exact .inr ⟨hp.symm, _, List.mem_cons_self, e.symm⟩
    · rcases h.memo p c hp with hk | ⟨hk, v, hv, e⟩
      · exact .inl hk
      · exact .inr ⟨hk, v, List.mem_cons_of_mem _ hv, e⟩
  · rcases List.mem_cons.1 hv with rfl | hv
    · exact h.bd.1
    · exact h.bd.2 v hv
theorem St.Pend.met {s : St} {F : Nat} {p0 q : Pr} {f : Nat} {c : Int} {vs : List Vis} {tk : Pr → Option Int} (h : s.Pend F p0 q f vs tk) (hf : f < 9223372036854775807) (hm : tk q = some c) :
    ((f : Int) < c → s.rEq F [p0] = none) ∧ (¬ (f : Int) < c → ∃ k : Nat, c = (k : Int) ∧ ∃ f', f = f' + k ∧ s.Inv F p0 f' vs tk) := by
  rcases h.memo q c hm with ⟨k, rfl, hk⟩ | ⟨rfl, v, hv, rfl⟩
  · refine ⟨fun hlt => ?_, fun hge => ⟨k, rfl, f - k, by omega, ?_⟩⟩
    · rw [h.eq]; exact hk.2 _ _ (by omega)
    · refine Pend.took (c := k) ?_ hk
      rw [show f - k + k = f by omega]
      exact h
  · refine ⟨fun _ => ?_, fun hge => absurd (show (f : Int) < 9223372036854775807 by omega) hge⟩
    rw [h.eq]
    exact Wi_self (Ch_wi h.ch v hv) _ _
/-- The next slot. -/
theorem St.Inv.next {s : St} {F : Nat} {p0 : Pr} {f : Nat} {v : Vis} {vs : List Vis} {tk : Pr → Option Int} (h : s.Inv F p0 f (v :: vs) tk) (hn : v.nx < v.n) : s.Pend F p0 (s.kid v.p v.nx) f (⟨v.p, v.n, v.nx + 1, v.fu⟩ :: vs) tk := by
  obtain ⟨h1, ⟨c, h2, h3, h4⟩, h5⟩ := h.ch
  refine ⟨?_, ⟨h1, ⟨v.nx, c, rfl, hn, rfl, h3, h4⟩, h5⟩, fun p c hp => ?_, h.bd.1, fun u hu => ?_⟩
  · rw [h.eq]
    show s.rEq f ((s.kids v.p).drop v.nx ++ s.rem vs) = s.rEq f (s.kid v.p v.nx :: ((s.kids v.p).drop (v.nx + 1) ++ s.rem vs))
    rw [kids_drop (h1.2.2 ▸ hn)]
    rfl
  · rcases h.memo p c hp with hk | ⟨hk, u, hu, e⟩
    · exact .inl hk
    · refine .inr ⟨hk, ?_⟩
      rcases List.mem_cons.1 hu with rfl | hu
      · exact ⟨_, List.mem_cons_self, e⟩
      · exact ⟨u, List.mem_cons_of_mem _ hu, e⟩
  · rcases List.mem_cons.1 hu with rfl | hu
    · exact h.bd.2 v List.mem_cons_self
    · exact h.bd.2 u (List.mem_cons_of_mem _ hu)
/-- Behind the last slot. -/
theorem St.Inv.done {s : St} {F : Nat} {p0 : Pr} {f : Nat} {v : Vis} {vs : List Vis} {tk : Pr → Option Int} (h : s.Inv F p0 f (v :: vs) tk) (hn : ¬ v.nx < v.n) : f < v.fu ∧ s.Inv F p0 f vs (putT tk v.p ((v.fu : Int) - (f : Int))) := by
  obtain ⟨⟨h1, h2, h3⟩, ⟨c, h4, h5, h6⟩, h7⟩ := h.ch
  have e : v.nx = s.len v.p.1 := by omega
  rw [e, kids_all] at h5
  have ht : s.Tk [v.p] (c + 1) := Tk_in h1 h2 h5
  refine ⟨by omega, ?_, ?_, fun p d hp => ?_, h.bd.1, fun u hu => h.bd.2 u (List.mem_cons_of_mem _ hu)⟩
  · rw [h.eq]
    show s.rEq f ((s.kids v.p).drop v.nx ++ s.rem vs) = _
    rw [e, ← kids_len, List.drop_length]
    rfl
  · cases vs with
    | nil => trivial
    | cons u us =>
      obtain ⟨g1, ⟨i, d, g4, g5, g6, g7, g8⟩, g9⟩ := h7
      refine ⟨g1, ⟨d + (c + 1), by omega, ?_, by omega⟩, g9⟩
      rw [g4, kids_take (g1.2.2 ▸ g5), g6]
      exact Tk_append g7 ht
  · unfold putT at hp
    split at hp
    · rename_i e2
      injection hp with hp
      subst e2
      exact .inl ⟨c + 1, by omega, ht⟩
    · rename_i e2
      rcases h.memo p d hp with hk | ⟨hk, u, hu, e3⟩
      · exact .inl hk
      · refine .inr ⟨hk, ?_⟩
        rcases List.mem_cons.1 hu with rfl | hu
        · exact absurd e3.symm e2
        · exact ⟨u, hu, e3⟩
theorem St.Inv.all {s : St} {F : Nat} {p0 : Pr} {f : Nat} {tk : Pr → Option Int} (h : s.Inv F p0 f [] tk) : s.rEq F [p0] = some (true, f) := by rw [h.eq]; exact rEq_nil _ _
end Go.Proofs.Ytimnhbndokfgnaa
