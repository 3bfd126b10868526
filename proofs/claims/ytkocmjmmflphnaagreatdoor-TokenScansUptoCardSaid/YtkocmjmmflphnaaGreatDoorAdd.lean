/- num.Add over sound numbers -/
import Derived.Test.YtkocmjmmflphnaaGreatDoorTrim
import Derived.Test.YtkocmjmmflphnaaGreatDoorPlus
import Derived.Deep.RegionWith
namespace Go.Proofs.YtkocmjmmflphnaaGreatDoor
open Go.RowKit

def ival (neg : Bool) (xs : List Nat) : Int := if neg then -(val xs : Int) else (val xs : Int)

/-- What an operation answers that comes to the number N: it, or that it is too large. -/
def ResPost (N : Int) (w : World) (e : Ending) (w' : World) : Prop :=
  ∃ v neg rs c, e = .returned (.tuple #[v, .int .i64 c]) ∧ IntV w' v neg rs ∧ Below w.heap.size w w' ∧
    ((c = 0 ∧ Snd neg rs ∧ ival neg rs = N) ∨ (c = 6 ∧ neg = false ∧ rs = [] ∧ 1000000000 ^ 64 ≤ N.natAbs))

theorem made_res {neg neg' : Bool} {N : Nat} {rs : List Nat} {c : Int} (h : (c = 0 ∧ Snd neg' rs ∧ val rs = N ∧ (rs ≠ [] → neg' = neg)) ∨ (c = 6 ∧ neg' = false ∧ rs = [] ∧ 1000000000 ^ 64 ≤ N)) :
    (c = 0 ∧ Snd neg' rs ∧ ival neg' rs = if neg then -(N : Int) else (N : Int)) ∨ (c = 6 ∧ neg' = false ∧ rs = [] ∧ 1000000000 ^ 64 ≤ (if neg then -(N : Int) else (N : Int)).natAbs) := by
  rcases h with ⟨h1, h2, h3, h4⟩ | ⟨h1, h2, h3, h4⟩
  · refine .inl ⟨h1, h2, ?_⟩
    by_cases e : rs = []
    · subst e
      have : val [] = 0 := rfl
      have h5 := h2.2.2.1 rfl
      subst h5
      rw [← h3, this]
      unfold ival
      rw [this]
      cases neg <;> simp
    · rw [h4 e]; unfold ival; rw [h3]
  · refine .inr ⟨h1, h2, h3, ?_⟩
    cases neg <;> simp <;> exact h4

theorem val_pos {xs : List Nat} (h : xs ≠ []) (ht : limb xs (xs.length - 1) ≠ 0) : 1000000000 ^ (xs.length - 1) ≤ val xs := by
  have : 0 < xs.length := List.length_pos_iff.2 h
  exact val_ge (by omega) ht
theorem len_le_of_val {n1 n2 : Bool} {xs ys : List Nat} (hx : Snd n1 xs) (hy : Snd n2 ys) (h : val ys ≤ val xs) : ys.length ≤ xs.length := by
  by_cases e : ys = []
  · subst e; simp
  · have h1 := val_pos e (hy.2.2.2 e)
    have h2 := val_lt hx.2.1
    have : 0 < ys.length := List.length_pos_iff.2 e
    have h3 : 1000000000 ^ (ys.length - 1) < 1000000000 ^ xs.length := by omega
    have := (Nat.pow_lt_pow_iff_right (by omega)).1 h3
    omega

/-- The two arguments and the result of an operation lie in boxes of their own. -/
structure Boxes (w w2 : World) (n1 : Bool) (s1 : Value) (n2 : Bool) (s2 : Value) : Prop where
  a : w2.heap[w.heap.size]? = some (.cells #[.bool n1, s1] 39 (0, 0))
  b : w2.heap[w.heap.size + 1]? = some (.cells #[.bool n2, s2] 39 (0, 0))
  r : w2.heap[w.heap.size + 1 + 1]? = some (.cells #[.bool false, .slice none 0 0] 39 (0, 0))
  lt : w.heap.size + 1 + 1 < w2.heap.size
  bel : Below w.heap.size w w2
theorem Boxes.start (w : World) (n1 : Bool) (s1 : Value) (n2 : Bool) (s2 : Value) : Boxes w (((w.alloc (.cells #[.bool n1, s1] 39)).alloc (.cells #[.bool n2, s2] 39)).alloc (.cells #[.bool false, .slice none 0 0] 39)) n1 s1 n2 s2 := by
  refine ⟨?_, ?_, ?_, by simp, below3 w _ _ _⟩
  · rw [Below.heap_alloc _ _ _ (by simp; omega), Below.heap_alloc _ _ _ (by simp)]
    exact heap_alloc_new w _
  · rw [Below.heap_alloc _ _ _ (by simp)]
    have := heap_alloc_new (w.alloc (.cells #[.bool n1, s1] 39)) (.cells #[.bool n2, s2] 39)
    simpa using this
  · have := heap_alloc_new ((w.alloc (.cells #[.bool n1, s1] 39)).alloc (.cells #[.bool n2, s2] 39)) (.cells #[.bool false, .slice none 0 0] 39)
    simpa using this
theorem Boxes.step {w w1 w2 : World} {n1 : Bool} {s1 : Value} {n2 : Bool} {s2 : Value} (h : Boxes w w1 n1 s1 n2 s2) (hb : Below w1.heap.size w1 w2) : Boxes w w2 n1 s1 n2 s2 :=
  ⟨by rw [hb.block _ (by have := h.lt; omega)]; exact h.a, by rw [hb.block _ (by have := h.lt; omega)]; exact h.b, by rw [hb.block _ h.lt]; exact h.r, Nat.lt_of_lt_of_le h.lt hb.size, h.bel.trans (hb.mono (by have := h.lt; omega))⟩
theorem Boxes.drewN {w w1 : World} {n1 : Bool} {s1 : Value} {n2 : Bool} {s2 : Value} (h : Boxes w w1 n1 s1 n2 s2) (q : Nat) : Boxes w (w1.drewN q) n1 s1 n2 s2 := ⟨h.a, h.b, h.r, h.lt, below_drewN h.bel q⟩
theorem Boxes.drew {w w1 : World} {n1 : Bool} {s1 : Value} {n2 : Bool} {s2 : Value} (h : Boxes w w1 n1 s1 n2 s2) : Boxes w w1.drew n1 s1 n2 s2 := ⟨h.a, h.b, h.r, h.lt, h.bel.drew⟩
theorem Boxes.facts {w w2 : World} {n1 : Bool} {s1 : Value} {n2 : Bool} {s2 : Value} (h : Boxes w w2 n1 s1 n2 s2) :
    w2.cell? ⟨w.heap.size, 0, none⟩ = some (.bool n1) ∧ w2.cell? ⟨w.heap.size, 1, none⟩ = some s1 ∧ w2.cell? ⟨w.heap.size + 1, 0, none⟩ = some (.bool n2) ∧ w2.cell? ⟨w.heap.size + 1, 1, none⟩ = some s2 ∧
    w2.cell? ⟨w.heap.size + 1 + 1, 0, none⟩ = some (.bool false) ∧ w2.cell? ⟨w.heap.size + 1 + 1, 1, none⟩ = some (.slice none 0 0) ∧ w2.frozen? ⟨w.heap.size + 1 + 1, 0, none⟩ = false ∧ w2.frozen? ⟨w.heap.size + 1 + 1, 1, none⟩ = false :=
  ⟨cell_heap h.a 0, cell_heap h.a 1, cell_heap h.b 0, cell_heap h.b 1, cell_heap h.r 0, cell_heap h.r 1, frozen_heap h.r 0, frozen_heap h.r 1⟩
/-- A slice of numbers does not lie in a box. -/
theorem Sl.box {k : IntKind} {w : World} {v : Value} {xs : List Nat} (h : Sl k w v xs) {g : Nat} {a : Bool} {s : Option Addr} {l c : Nat} {e : TypeId} (hg : w.heap[g]? = some (.cells #[.bool a, .slice s l c] e (0, 0))) (x y : Value) :
    Sl k ((w.setCell ⟨g, 0, none⟩ x).setCell ⟨g, 1, none⟩ y) v xs := by
  obtain ⟨hm, ao, cap, hv, hc, h⟩ := h
  refine ⟨hm, ao, cap, hv, hc, ?_⟩
  rcases h with h | ⟨b, off, ha, hlt, hcell⟩
  · exact .inl h
  · by_cases hx : xs = []
    · subst hx
      refine .inr ⟨b, off, ha, by simpa using hlt, fun j hj => absurd hj (by simp)⟩
    · have hne : b ≠ g := by
        intro e
        subst e
        have := hcell 0 (List.length_pos_iff.2 hx)
        rw [cell_heap hg] at this
        rcases (by omega : off + 0 = 0 ∨ off + 0 = 1 ∨ 2 ≤ off + 0) with e | e | e
        · rw [e] at this; simp at this
        · rw [e] at this; simp at this
        · rw [Array.getElem?_eq_none (by simpa using e)] at this; cases this
      refine .inr ⟨b, off, ha, by simpa using hlt, fun j hj => ?_⟩
      rw [cell_other (by simpa using hne), cell_other (by simpa using hne)]
      exact hcell j hj

end Go.Proofs.YtkocmjmmflphnaaGreatDoor
