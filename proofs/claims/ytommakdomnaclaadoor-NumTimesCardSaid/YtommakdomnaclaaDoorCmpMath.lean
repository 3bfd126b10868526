/- What Cmp answers; two boxes. No walk here. -/
import Derived.Test.YtommakdomnaclaaDoorAnyRes
namespace Go.Proofs.YtommakdomnaclaaDoor
open Go.RowKit

/-- -1, 0, 1. -/
def cmpZ (a b : Int) : Int := if a < b then -1 else if b < a then 1 else 0
def CmpPost (G : Prop) (a b : Int) (w : World) (e : Ending) (w' : World) : Prop :=
  ∃ c, e = .returned (.int .i64 c) ∧ Below w.heap.size w w' ∧ ((G ∧ c = cmpZ a b) ∨ (¬ G ∧ c = 0))
theorem cmp_unique {G : Prop} {a b c d : Int} (h1 : (G ∧ c = cmpZ a b) ∨ (¬ G ∧ c = 0)) (h2 : (G ∧ d = cmpZ a b) ∨ (¬ G ∧ d = 0)) : c = d := by
  rcases h1 with ⟨g, rfl⟩ | ⟨g, rfl⟩
  · rcases h2 with ⟨_, rfl⟩ | ⟨g2, _⟩
    · rfl
    · exact absurd g g2
  · rcases h2 with ⟨g2, _⟩ | ⟨_, rfl⟩
    · exact absurd g2 g
    · rfl
theorem cmpN_pos (a b : Nat) : cmpN a b = cmpZ (a : Int) (b : Int) := by
  unfold cmpN cmpZ
  (repeat' split) <;> omega
theorem cmpN_neg (a b : Nat) : cmpN a b = cmpZ (-(b : Int)) (-(a : Int)) := by
  unfold cmpN cmpZ
  (repeat' split) <;> omega
theorem cmpN_flip (a b : Nat) : -cmpN a b = cmpN b a := by
  unfold cmpN
  (repeat' split) <;> omega
theorem cmpN_range (a b : Nat) : -1 ≤ cmpN a b ∧ cmpN a b ≤ 1 := by
  unfold cmpN
  split
  · omega
  · split <;> omega
theorem snd_neg {rs : List Nat} (h : Snd true rs) : ival true rs < 0 := by
  have hne : rs ≠ [] := fun e => by have := h.2.2.1 e; cases this
  have := val_pos hne (h.2.2.2 hne)
  have h2 : 0 < 1000000000 ^ (rs.length - 1) := Nat.pow_pos (by omega)
  unfold ival
  simp
  omega
theorem cmpZ_lt {a b : Int} (h : a < b) : cmpZ a b = -1 := by unfold cmpZ; rw [if_pos h]
theorem cmpZ_gt {a b : Int} (h : b < a) : cmpZ a b = 1 := by unfold cmpZ; rw [if_neg (by omega), if_pos h]

/-- Two arguments lie in boxes of their own. -/
structure Box2 (w w2 : World) (n1 : Bool) (s1 : Value) (n2 : Bool) (s2 : Value) : Prop where
  a : w2.heap[w.heap.size]? = some (.cells #[.bool n1, s1] 24 (0, 0))
  b : w2.heap[w.heap.size + 1]? = some (.cells #[.bool n2, s2] 24 (0, 0))
  lt : w.heap.size + 1 < w2.heap.size
  bel : Below w.heap.size w w2
theorem Box2.start (w : World) (n1 : Bool) (s1 : Value) (n2 : Bool) (s2 : Value) : Box2 w ((w.alloc (.cells #[.bool n1, s1] 24)).alloc (.cells #[.bool n2, s2] 24)) n1 s1 n2 s2 := by
  refine ⟨?_, ?_, by simp, below2 w _ _⟩
  · rw [Below.heap_alloc _ _ _ (by simp)]
    exact heap_alloc_new w _
  · have := heap_alloc_new (w.alloc (.cells #[.bool n1, s1] 24)) (.cells #[.bool n2, s2] 24)
    simpa using this
theorem Box2.step {w w1 w2 : World} {n1 : Bool} {s1 : Value} {n2 : Bool} {s2 : Value} (h : Box2 w w1 n1 s1 n2 s2) (hb : Below w1.heap.size w1 w2) : Box2 w w2 n1 s1 n2 s2 :=
  ⟨by rw [hb.block _ (by have := h.lt; omega)]; exact h.a, by rw [hb.block _ h.lt]; exact h.b, Nat.lt_of_lt_of_le h.lt hb.size, h.bel.trans (hb.mono (by have := h.lt; omega))⟩
theorem Box2.drewN {w w1 : World} {n1 : Bool} {s1 : Value} {n2 : Bool} {s2 : Value} (h : Box2 w w1 n1 s1 n2 s2) (q : Nat) : Box2 w (w1.drewN q) n1 s1 n2 s2 := ⟨h.a, h.b, h.lt, below_drewN h.bel q⟩
theorem Box2.drew {w w1 : World} {n1 : Bool} {s1 : Value} {n2 : Bool} {s2 : Value} (h : Box2 w w1 n1 s1 n2 s2) : Box2 w w1.drew n1 s1 n2 s2 := ⟨h.a, h.b, h.lt, h.bel.drew⟩
theorem Box2.facts {w w2 : World} {n1 : Bool} {s1 : Value} {n2 : Bool} {s2 : Value} (h : Box2 w w2 n1 s1 n2 s2) :
    w2.cell? ⟨w.heap.size, 0, none⟩ = some (.bool n1) ∧ w2.cell? ⟨w.heap.size, 1, none⟩ = some s1 ∧ w2.cell? ⟨w.heap.size + 1, 0, none⟩ = some (.bool n2) ∧ w2.cell? ⟨w.heap.size + 1, 1, none⟩ = some s2 :=
  ⟨cell_heap h.a 0, cell_heap h.a 1, cell_heap h.b 0, cell_heap h.b 1⟩
end Go.Proofs.YtommakdomnaclaaDoor
