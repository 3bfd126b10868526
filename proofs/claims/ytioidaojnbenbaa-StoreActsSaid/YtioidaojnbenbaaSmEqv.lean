/- same's reading parts: slotsAt, slotsSame, Eqv. -/
import Derived.Test.YtioidaojnbenbaaStLaw
import Derived.Laws.StructEq
namespace Go.Proofs.Ytioidaojnbenbaa
open Go.RowKit

theorem row4 {W : World} {g : Nat} {a0 a1 a2 a3 : Value} {e : TypeId} (h : W.heap[g]? = some (.cells #[a0, a1, a2, a3] e (0, 0))) : W.cell? ⟨g, 0, none⟩ = some a0 ∧ W.cell? ⟨g, 1, none⟩ = some a1 ∧ W.cell? ⟨g, 2, none⟩ = some a2 ∧ W.cell? ⟨g, 3, none⟩ = some a3 :=
  ⟨cell_heap h 0, cell_heap h 1, cell_heap h 2, cell_heap h 3⟩

theorem St.Ok.lenv {s : St} (h : s.Ok) (v : Int × Int) : s.len v ≤ 1048576 := by
  unfold St.len
  split
  · rename_i o ho
    exact h.slots (List.mem_of_getElem? (St.obj_some ho).2.2.2)
  · omega
/-- Have both the same slots? -/
def St.slotsEq (s : St) (a b : Int × Int) : Bool := decide (s.len a = s.len b ∧ ∀ i, i < s.len a → (s.get a ((i : Nat) : Int)).1 = (s.get b ((i : Nat) : Int)).1)
theorem slotsEq_len {s : St} {a b : Int × Int} (h : s.len a ≠ s.len b) : s.slotsEq a b = false := by unfold St.slotsEq; simp [h]
theorem slotsEq_at {s : St} {a b : Int × Int} {i : Nat} (hi : i < s.len a) (h : (s.get a ((i : Nat) : Int)).1 ≠ (s.get b ((i : Nat) : Int)).1) : s.slotsEq a b = false := by
  unfold St.slotsEq; rw [decide_eq_false_iff_not]; intro hn; exact h (hn.2 i hi)
theorem slotsEq_all {s : St} {a b : Int × Int} (hl : s.len a = s.len b) (h : ∀ i, i < s.len a → (s.get a ((i : Nat) : Int)).1 = (s.get b ((i : Nat) : Int)).1) : s.slotsEq a b = true := by
  unfold St.slotsEq; rw [decide_eq_true_iff]; exact ⟨hl, h⟩
theorem news2 {w : World} {a b : Obj} : ((w.alloc a).alloc b).heap[w.heap.size]? = some a ∧ ((w.alloc a).alloc b).heap[w.heap.size + 1]? = some b := by
  refine ⟨?_, ?_⟩
  · rw [Below.heap_alloc _ _ _ (by simp)]; exact heap_alloc_new w _
  · have := heap_alloc_new (w.alloc a) b
    simpa using this

end Go.Proofs.Ytioidaojnbenbaa
