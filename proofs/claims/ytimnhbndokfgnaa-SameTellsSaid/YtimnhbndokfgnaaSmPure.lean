/- Of rEq: which way round the pairs stand, and what more or less fuel does. No walk here. -/
import Derived.Test.YtimnhbndokfgnaaSmEq
namespace Go.Proofs.Ytimnhbndokfgnaa

theorem eqvA_comm (s : St) (a b : Int × Int) : s.eqvA a b = s.eqvA b a := by
  have hs : s.slotsEq a b = true ↔ s.slotsEq b a = true := by
    unfold St.slotsEq
    rw [decide_eq_true_iff, decide_eq_true_iff]
    exact ⟨fun h => ⟨h.1.symm, fun i hi => (h.2 i (by rw [h.1]; exact hi)).symm⟩, fun h => ⟨h.1.symm, fun i hi => (h.2 i (by rw [h.1]; exact hi)).symm⟩⟩
  unfold St.eqvA
  rw [Bool.eq_iff_iff, decide_eq_true_iff, decide_eq_true_iff]
  exact ⟨fun h => h.elim (fun e => .inl e.symm) fun h => .inr ⟨h.2.1, h.1, hs.1 h.2.2⟩, fun h => h.elim (fun e => .inl e.symm) fun h => .inr ⟨h.2.1, h.1, hs.2 h.2.2⟩⟩
theorem compA_comm (s : St) (a b : Int × Int) : s.compA a b = s.compA b a := by
  unfold St.compA
  rw [Bool.eq_iff_iff, decide_eq_true_iff, decide_eq_true_iff]
  exact ⟨fun h => ⟨by rw [h.2.2.1]; exact h.1, by rw [h.2.2.1]; exact h.2.1, h.2.2.1.symm, h.2.2.2.symm⟩, fun h => ⟨by rw [h.2.2.1]; exact h.1, by rw [h.2.2.1]; exact h.2.1, h.2.2.1.symm, h.2.2.2.symm⟩⟩
theorem compA_len' {s : St} {a b : Int × Int} (h : s.compA a b = true) : s.len a = s.len b := by
  unfold St.compA at h
  rw [decide_eq_true_iff] at h
  exact h.2.2.2
theorem kids_swap {s : St} {p : Pr} (h : s.len p.1 = s.len p.2) : s.kids p.swap = (s.kids p).map Prod.swap := by
  unfold St.kids
  rw [List.map_map]
  show (List.range (s.len p.2)).map _ = _
  rw [← h]
  rfl
theorem rEq_swap (s : St) : ∀ (f : Nat) (l : List Pr), s.rEq f (l.map Prod.swap) = s.rEq f l := by
  intro f
  induction f with
  | zero => intro l; cases l <;> rfl
  | succ f ih =>
    intro l
    cases l with
    | nil => rfl
    | cons p l =>
      rw [List.map_cons]
      have e1 : s.eqvA p.swap.1 p.swap.2 = s.eqvA p.1 p.2 := eqvA_comm s _ _
      have e2 : s.compA p.swap.1 p.swap.2 = s.compA p.1 p.2 := compA_comm s _ _
      cases h : s.eqvA p.1 p.2 with
      | true => rw [rEq_eqv (e1.trans h), rEq_eqv h, ih]
      | false =>
        cases h2 : s.compA p.1 p.2 with
        | true => rw [rEq_in (e1.trans h) (e2.trans h2), rEq_in h h2, kids_swap (compA_len' h2), ← List.map_append, ih]
        | false => rw [rEq_no (e1.trans h) (e2.trans h2), rEq_no h h2]
theorem rEq_swap1 (s : St) (f : Nat) (a b : Int × Int) : s.rEq f [(b, a)] = s.rEq f [(a, b)] := rEq_swap s f [(a, b)]
/-- What it takes, it takes each time. -/
theorem rEq_takes (s : St) : ∀ (f : Nat) (l : List Pr) (r : Bool) (k : Nat), s.rEq f l = some (r, k) → ∃ c, f = k + c ∧ (∀ g, s.rEq (g + c) l = some (r, g)) ∧ (∀ g, g < c → s.rEq g l = none) ∧ (l ≠ [] → 0 < c) := by
  intro f
  induction f with
  | zero =>
    intro l r k h
    cases l with
    | nil =>
      rw [rEq_nil] at h
      injection h with h; injection h with h1 h2
      subst h1 h2
      exact ⟨0, rfl, fun g => rEq_nil s g, fun g hg => absurd hg (Nat.not_lt_zero _), fun h => absurd rfl h⟩
    | cons p l => rw [rEq_zero] at h; cases h
  | succ f ih =>
    intro l r k h
    cases l with
    | nil =>
      rw [rEq_nil] at h
      injection h with h; injection h with h1 h2
      subst h1 h2
      exact ⟨0, rfl, fun g => rEq_nil s g, fun g hg => absurd hg (Nat.not_lt_zero _), fun h => absurd rfl h⟩
    | cons p l =>
      cases h1 : s.eqvA p.1 p.2 with
      | true =>
        rw [rEq_eqv h1] at h
        obtain ⟨c, hc, hg, hl, _⟩ := ih _ _ _ h
        refine ⟨c + 1, by omega, fun g => by rw [← Nat.add_assoc, rEq_eqv h1]; exact hg g, fun g hgc => ?_, fun _ => Nat.succ_pos _⟩
        cases g with
        | zero => rfl
        | succ g => rw [rEq_eqv h1]; exact hl g (by omega)
      | false =>
        cases h2 : s.compA p.1 p.2 with
        | true =>
          rw [rEq_in h1 h2] at h
          obtain ⟨c, hc, hg, hl, _⟩ := ih _ _ _ h
          refine ⟨c + 1, by omega, fun g => by rw [← Nat.add_assoc, rEq_in h1 h2]; exact hg g, fun g hgc => ?_, fun _ => Nat.succ_pos _⟩
          cases g with
          | zero => rfl
          | succ g => rw [rEq_in h1 h2]; exact hl g (by omega)
        | false =>
          rw [rEq_no h1 h2] at h
          injection h with h; injection h with h3 h4
          subst h3 h4
          refine ⟨1, rfl, fun g => rEq_no h1 h2 g l, fun g hgc => ?_, fun _ => Nat.succ_pos _⟩
          obtain rfl : g = 0 := by omega
          rfl
theorem rEq_both {s : St} {a b : Int × Int} {r : Bool} {k : Nat} (h : s.rEq 400 [(a, b)] = some (r, k)) (m : Nat) :
    k ≤ 399 ∧ s.rEq (400 + m) [(a, b)] = some (r, k + m) ∧ s.rEq (400 - k) [(a, b)] = some (r, 0) ∧ s.rEq (399 - k) [(a, b)] = none := by
  obtain ⟨c, hc, hg, hl, hp⟩ := rEq_takes s _ _ _ _ h
  have hp := hp (by simp)
  refine ⟨by omega, ?_, ?_, hl _ (by omega)⟩
  · rw [show 400 + m = (k + m) + c by omega]; exact hg _
  · rw [show 400 - k = 0 + c by omega]; exact hg _
theorem rEq_self (s : St) (a : Int × Int) : s.rEq 1 [(a, a)] = some (true, 0) := by rw [rEq_eqv (eqvA_same rfl)]; rfl
theorem rEq_eqv400 {s : St} {a b : Int × Int} (h : s.eqvA a b = true) : s.rEq 400 [(a, b)] = some (true, 399) := by rw [rEq_eqv h]; exact rEq_nil _ _
end Go.Proofs.Ytimnhbndokfgnaa
