/- The scanner in memory: its three cells, its text, and what its methods leave as it was. | Places in a text, and the words that are always written alike. No walk here. | Limbs stay through stores into blocks that hold none. No walk here. -/
import Derived.Test.YtegengnffdlplaaGreatDoorBase
import Derived.BigQuiet
import Derived.LoopTactic
import Derived.Deep.LoopGhost
import Derived.Deep.QuietTactic
namespace Go.Proofs.YtegengnffdlplaaGreatDoor
open Go.RowKit

theorem row6 {W : World} {g : Nat} {a0 a1 a2 a3 a4 a5 : Value} {e : TypeId} (h : W.heap[g]? = some (.cells #[a0, a1, a2, a3, a4, a5] e (0, 0))) :
    W.cell? ⟨g, 0, none⟩ = some a0 ∧ W.cell? ⟨g, 1, none⟩ = some a1 ∧ W.cell? ⟨g, 2, none⟩ = some a2 ∧ W.cell? ⟨g, 3, none⟩ = some a3 ∧ W.cell? ⟨g, 4, none⟩ = some a4 ∧ W.cell? ⟨g, 5, none⟩ = some a5 :=
  ⟨cell_heap h 0, cell_heap h 1, cell_heap h 2, cell_heap h 3, cell_heap h 4, cell_heap h 5⟩

/-- Only block g of the old ones has changed. -/
structure Ks (g : Nat) (w w' : World) : Prop where
  bel : Below g w w'
  oth : ∀ b, b < w.heap.size → b ≠ g → w'.heap[b]? = w.heap[b]?
theorem Ks.refl (g : Nat) (w : World) : Ks g w w := ⟨Below.refl _ _, fun _ _ _ => rfl⟩
theorem Ks.size {g : Nat} {w w' : World} (h : Ks g w w') : w.heap.size ≤ w'.heap.size := h.bel.size
theorem Ks.trans {g : Nat} {w w' w'' : World} (h : Ks g w w') (h' : Ks g w' w'') : Ks g w w'' :=
  ⟨h.bel.trans h'.bel, fun b hb hne => (h'.oth b (Nat.lt_of_lt_of_le hb h.size) hne).trans (h.oth b hb hne)⟩
theorem Ks.alloc {g : Nat} {w w' : World} (h : Ks g w w') (hg : g < w.heap.size) (o : Obj) : Ks g w (w'.alloc o) :=
  ⟨h.bel.alloc (by have := h.size; omega) o, fun b hb hne => (Below.heap_alloc _ _ _ (Nat.lt_of_lt_of_le hb h.size)).trans (h.oth b hb hne)⟩
theorem Ks.set {g : Nat} {w w' : World} (h : Ks g w w') (j : Nat) (u : Value) : Ks g w (w'.setCell ⟨g, j, none⟩ u) :=
  ⟨h.bel.setCell (Nat.le_refl _) u, fun b hb hne => (Below.heap_setCell _ _ _ _ hne).trans (h.oth b hb hne)⟩
theorem Ks.drew {g : Nat} {w w' : World} (h : Ks g w w') : Ks g w w'.drew := ⟨h.bel.drew, h.oth⟩
theorem Ks.drewN {g : Nat} {w w' : World} (h : Ks g w w') (n : Nat) : Ks g w (w'.drewN n) := ⟨below_drewN h.bel n, h.oth⟩
/-- Whatever leaves all that was there leaves the scanner, too. -/
theorem Ks.below {g : Nat} {w w' w'' : World} (h : Ks g w w') (hg : g < w.heap.size) (hb : Below w'.heap.size w' w'') : Ks g w w'' :=
  ⟨h.bel.trans (hb.mono (by have := h.size; omega)), fun b hb' hne => (hb.block b (Nat.lt_of_lt_of_le hb' h.size)).trans (h.oth b hb' hne)⟩
theorem Ks.frame {g B : Nat} {w w' : World} (h : Ks g w w') (hB : B ≤ g) : Below B w w' := h.bel.mono hB

/-- Sl, through whatever leaves the slice's block as it was. -/
theorem Sl.ks {k : IntKind} {g : Nat} {w w' : World} {v : Value} {xs : List Nat} (h : Sl k w v xs) (hk : Ks g w w') (hn : xs ≠ [] → v.ownBlock ≠ some g) : Sl k w' v xs := by
  obtain ⟨h1, ao, c, rfl, h2, h3⟩ := h
  refine ⟨h1, ao, c, rfl, h2, ?_⟩
  rcases h3 with ⟨h3, h4⟩ | ⟨b, off, rfl, h4, h5⟩
  · exact .inl ⟨h3, h4⟩
  · refine .inr ⟨b, off, rfl, Nat.lt_of_lt_of_le h4 hk.size, fun j hj => ?_⟩
    rw [← h5 j hj]
    exact World.cell?_of_block (hk.oth b h4 (fun e => hn (by intro h; rw [h] at hj; simp at hj) (by rw [← e]; rfl)))

end Go.Proofs.YtegengnffdlplaaGreatDoor
namespace Go.Proofs.YtegengnffdlplaaGreatDoor
open Go.RowKit

end Go.Proofs.YtegengnffdlplaaGreatDoor
namespace Go.Proofs.YtegengnffdlplaaGreatDoor
open Go.RowKit

/-- All limbs that lie in w lie in w', too. -/
structure U32S (w w' : World) : Prop where
  size : w.heap.size ≤ w'.heap.size
  cell : ∀ b o x, w.cell? ⟨b, o, none⟩ = some (.int .u32 x) → w'.cell? ⟨b, o, none⟩ = some (.int .u32 x)
theorem U32S.refl (w : World) : U32S w w := ⟨Nat.le_refl _, fun _ _ _ h => h⟩
theorem U32S.trans {w w' w'' : World} (h : U32S w w') (h' : U32S w' w'') : U32S w w'' := ⟨Nat.le_trans h.size h'.size, fun b o x e => h'.cell b o x (h.cell b o x e)⟩
theorem U32S.below {w w' : World} (h : Below w.heap.size w w') : U32S w w' := by
  refine ⟨h.size, fun b o x e => ?_⟩
  rw [h.cell (p := ⟨b, o, none⟩) (World.block_lt_of_cell? w _ e)]; exact e
/-- Block g holds no limb. -/
def NoU (w : World) (g : Nat) : Prop := ∀ o x, w.cell? ⟨g, o, none⟩ ≠ some (.int .u32 x)
theorem U32S.ks {g : Nat} {w w' : World} (h : Ks g w w') (hg : NoU w g) : U32S w w' := by
  refine ⟨h.size, fun b o x e => ?_⟩
  have hb : b < w.heap.size := World.block_lt_of_cell? w ⟨b, o, none⟩ e
  by_cases hbg : b = g
  · subst hbg; exact absurd e (hg o x)
  · rw [World.cell?_of_block (w := w) (h.oth b hb hbg)]; exact e
theorem NoU.of_cells {w : World} {g : Nat} {cs : Array Value} {e : TypeId} {fz : Nat × Nat} (h : w.heap[g]? = some (.cells cs e fz)) (hcs : ∀ v ∈ cs, ∀ x, v ≠ .int .u32 x) : NoU w g := by
  intro o x hx
  rw [cell_of_row w g o cs e fz h] at hx
  exact hcs _ (Array.mem_of_getElem? hx) x rfl
theorem Sl.u32s {w w' : World} {v : Value} {xs : List Nat} (h : Sl .u32 w v xs) (hk : U32S w w') : Sl .u32 w' v xs := by
  obtain ⟨h1, ao, c, rfl, h2, h3⟩ := h
  refine ⟨h1, ao, c, rfl, h2, ?_⟩
  rcases h3 with h3 | ⟨b, off, rfl, h4, h5⟩
  · exact .inl h3
  · exact .inr ⟨b, off, rfl, Nat.lt_of_lt_of_le h4 hk.size, fun j hj => hk.cell _ _ _ (h5 j hj)⟩
end Go.Proofs.YtegengnffdlplaaGreatDoor
