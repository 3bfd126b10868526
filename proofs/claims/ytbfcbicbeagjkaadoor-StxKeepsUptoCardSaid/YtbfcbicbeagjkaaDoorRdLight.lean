/- (*scanner).next, until, take | (*scanner).skip, leaf | token.encoded; (*scanner).numbered, escape | (*scanner).numbered, escape | Words as values, a word's box, and what methods answer that pass a word. No walk here. | (*scanner).char, atom | (*scanner).atom | (*scanner).quoted | (*scanner).word | Rows of words, as append lays them: what lies in the spare is no limb. | (*scanner).words | token.Scan | What the reader has open, as it lies in memory. No walk here. | light: is there not too much in a datum? | own: a datum that shares nothing. -/
import Derived.Test.YtbfcbicbeagjkaaDoorTkSc
import Derived.Test.YtbfcbicbeagjkaaDoorTkMath
import Derived.Deep.RegionHeld3
import Derived.Test.YtbfcbicbeagjkaaDoorTkAtom
import Derived.Test.YtbfcbicbeagjkaaDoorTkLit
import Derived.Test.YtbfcbicbeagjkaaDoorApp
import Derived.StillTailTactics
import Derived.Deep.MidRow
import Derived.Deep.Cut
import Derived.Laws.AppendOwn
import Derived.Defers
import Derived.Recover
import Derived.Laws.Pointers
import Derived.Test.YtbfcbicbeagjkaaDoorRdMath
import Derived.Test.YtbfcbicbeagjkaaDoorDm
import Derived.Test.YtbfcbicbeagjkaaDoorDmOwnP
import Derived.Test.YtbfcbicbeagjkaaDoorSxPure
namespace Go.Proofs.YtbfcbicbeagjkaaDoor
open Go.RowKit

end Go.Proofs.YtbfcbicbeagjkaaDoor
namespace Go.Proofs.YtbfcbicbeagjkaaDoor
open Go.RowKit

end Go.Proofs.YtbfcbicbeagjkaaDoor
namespace Go.Proofs.YtbfcbicbeagjkaaDoor
open Go.RowKit

end Go.Proofs.YtbfcbicbeagjkaaDoor
namespace Go.Proofs.YtbfcbicbeagjkaaDoor
open Go.RowKit

end Go.Proofs.YtbfcbicbeagjkaaDoor
namespace Go.Proofs.YtbfcbicbeagjkaaDoor
open Go.RowKit

theorem Ks.grownBy {g : Nat} {w w' : World} (h : Ks g w w') : w.grownBy w' (some g) :=
  ⟨h.bel.os, h.bel.tape, h.bel.output, h.bel.size, fun k hk hne => h.oth k hk (fun e => hne (by rw [e]))⟩
theorem Ks.grown {g : Nat} {w w' w'' : World} (h : Ks g w w') (hg : g < w.heap.size) {row : Option Nat} (hgr : w'.grownBy w'' row) (hr : ∀ k, row = some k → w.heap.size ≤ k) : Ks g w w'' :=
  ⟨h.bel.grown hgr (by have := h.size; omega) (fun k hk => by have := hr k hk; omega), fun b hb hne => (hgr.block b (Nat.lt_of_lt_of_le hb h.size) (fun e => by have := hr b e.symm; omega)).trans (h.oth b hb hne)⟩
theorem Ks.of_below {g : Nat} {w w' : World} (hg : g < w.heap.size) (h : Below w.heap.size w w') : Ks g w w' := (Ks.refl g w).below hg h
/-- Two blocks only have changed, of which one is new. -/
theorem Ks.two {g b : Nat} {w w0 w' w'' : World} (h0 : Below w.heap.size w w0) (h : Ks g w0 w') (h2 : Ks b w' w'') (hb : w.heap.size ≤ b) (hg : g < w.heap.size) : Ks g w w'' := by
  refine ⟨(h0.mono (by omega)).trans (h.bel.trans (h2.bel.mono (by omega))), fun k hk hne => ?_⟩
  rw [h2.oth k (by have := h.size; have := h0.size; omega) (by omega), h.oth k (by have := h0.size; omega) hne]
  exact h0.block k hk
end Go.Proofs.YtbfcbicbeagjkaaDoor
namespace Go.Proofs.YtbfcbicbeagjkaaDoor
open Go.RowKit

end Go.Proofs.YtbfcbicbeagjkaaDoor
namespace Go.Proofs.YtbfcbicbeagjkaaDoor
open Go.RowKit

end Go.Proofs.YtbfcbicbeagjkaaDoor
namespace Go.Proofs.YtbfcbicbeagjkaaDoor
open Go.RowKit

end Go.Proofs.YtbfcbicbeagjkaaDoor
namespace Go.Proofs.YtbfcbicbeagjkaaDoor
open Go.RowKit

end Go.Proofs.YtbfcbicbeagjkaaDoor
namespace Go.Proofs.YtbfcbicbeagjkaaDoor
open Go.RowKit

/-- No limb. -/
def NU (v : Value) : Prop := ∀ x, v ≠ .int .u32 x
/-- A row that the call owns, in which the spare holds no limb either. -/
def OwnQ (w : World) (base : Nat) (e : TypeId) (size : Nat) (v : Value) (n : Nat) (xs : List Value) : Prop :=
  xs.length = n * size ∧
  ((v = .slice none 0 0 ∧ n = 0) ∨
   ∃ g cap cur, v = .slice (some ⟨g, 0, none⟩) n cap ∧ base ≤ g ∧ w.heap[g]? = some (.cells cur e (0, 0)) ∧ n ≤ cap ∧ cap ≤ maxLen ∧ cur.size = cap * size ∧ cur.toList.take (n * size) = xs ∧ ∀ u ∈ cur.toList.drop (n * size), NU u)
theorem OwnQ.own {w : World} {base : Nat} {e : TypeId} {size : Nat} {v : Value} {n : Nat} {xs : List Value} (h : OwnQ w base e size v n xs) : w.ownsRow base e size v n xs := by
  refine ⟨h.1, ?_⟩
  rcases h.2 with hn | ⟨g, cap, cur, h1, h2, h3, h4, h5, h6, h7, _⟩
  · exact .inl hn
  · exact .inr ⟨g, cap, cur, h1, h2, h3, h4, h5, h6, h7⟩
theorem OwnQ.nil (w : World) (base : Nat) (e : TypeId) (size : Nat) : OwnQ w base e size (.slice none 0 0) 0 [] := ⟨by simp, .inl ⟨rfl, rfl⟩⟩
theorem OwnQ.kept {w w' : World} {base : Nat} {e : TypeId} {size : Nat} {v : Value} {n : Nat} {xs : List Value} {row : Option Nat} (h : OwnQ w base e size v n xs) (hg : w.grownBy w' row) (hne : ∀ g, v.ownBlock = some g → row ≠ some g) : OwnQ w' base e size v n xs := by
  refine ⟨h.1, ?_⟩
  rcases h.2 with hn | ⟨g, cap, cur, rfl, h2, h3, rest⟩
  · exact .inl hn
  · exact .inr ⟨g, cap, cur, rfl, h2, (hg.block g (Array.getElem?_eq_some_iff.1 h3).1 (fun e => hne g rfl e.symm)).trans h3, rest⟩
theorem OwnQ.ks {w w' : World} {base n size g : Nat} {e : TypeId} {v : Value} {xs : List Value} (h : OwnQ w base e size v n xs) (hk : Ks g w w') (hg : g < base) : OwnQ w' base e size v n xs :=
  h.kept hk.grownBy (fun b hb he => by have := (h.own.lt b hb).1; injection he with he; omega)
theorem OwnQ.alloc {w : World} {base n size : Nat} {e : TypeId} {v : Value} {xs : List Value} (h : OwnQ w base e size v n xs) (o : Obj) : OwnQ (w.alloc o) base e size v n xs :=
  h.kept (World.grownBy_alloc w o none) (fun _ _ h => by cases h)
theorem OwnQ.below {w w' : World} {base n size : Nat} {e : TypeId} {v : Value} {xs : List Value} (h : OwnQ w base e size v n xs) (hb : Below w.heap.size w w') : OwnQ w' base e size v n xs :=
  h.kept (row := none) ⟨hb.os, hb.tape, hb.output, hb.size, fun k hk _ => hb.block k hk⟩ (fun _ _ h => by cases h)

section
variable {P : Program} (w : World)
end

end Go.Proofs.YtbfcbicbeagjkaaDoor
namespace Go.Proofs.YtbfcbicbeagjkaaDoor
open Go.RowKit

theorem parA_ok {s : ByteArray} (h : (parA s).2.2 = true) : okA s := by
  unfold parA at h
  split at h
  · rename_i hx
    have h2 := hx.choose_spec
    rcases h2 with h2 | h2
    · exact h2.1
    · rw [h2.1] at h; cases h
  · cases h
end Go.Proofs.YtbfcbicbeagjkaaDoor
namespace Go.Proofs.YtbfcbicbeagjkaaDoor
open Go.RowKit

theorem OwnQ.slice {w : World} {base : Nat} {e : TypeId} {size : Nat} {v : Value} {n : Nat} {xs : List Value} (h : OwnQ w base e size v n xs) : ∃ a c, v = .slice a n c := by
  rcases h.2 with ⟨rfl, h0⟩ | ⟨g, cap, cur, rfl, _⟩
  · subst h0; exact ⟨_, _, rfl⟩
  · exact ⟨_, _, rfl⟩
theorem OwnQ.mono {w : World} {base base' : Nat} {e : TypeId} {size : Nat} {v : Value} {n : Nat} {xs : List Value} (h : OwnQ w base e size v n xs) (hb : base' ≤ base) : OwnQ w base' e size v n xs := by
  refine ⟨h.1, ?_⟩
  rcases h.2 with hn | ⟨g, cap, cur, h1, h2, rest⟩
  · exact .inl hn
  · exact .inr ⟨g, cap, cur, h1, Nat.le_trans hb h2, rest⟩

end Go.Proofs.YtbfcbicbeagjkaaDoor
namespace Go.Proofs.YtbfcbicbeagjkaaDoor
open Go.RowKit

end Go.Proofs.YtbfcbicbeagjkaaDoor
namespace Go.Proofs.YtbfcbicbeagjkaaDoor
open Go.RowKit

end Go.Proofs.YtbfcbicbeagjkaaDoor
namespace Go.Proofs.YtbfcbicbeagjkaaDoor
open Go.RowKit

end Go.Proofs.YtbfcbicbeagjkaaDoor
