/- ref.plus | ref.more | ref.minus -/
import Derived.Test.YtocladhggcaokaaGreatDoorAdd
import Derived.Test.YtocladhggcaokaaGreatDoorRTrim
import Derived.Deep.QuietTactic
import Derived.BigQuiet
namespace Go.Proofs.YtocladhggcaokaaGreatDoor
open Go.RowKit

theorem sl_cells {k : IntKind} {w : World} {ao : Option Addr} {cap : Nat} {xs : List Nat} (h : Sl k w (.slice ao xs.length cap) xs) {j : Nat} (hj : j < xs.length) : ∃ b off, ao = some ⟨b, off, none⟩ ∧ b < w.heap.size ∧ w.cell? ⟨b, off + j, none⟩ = some (.int k ((limb xs j : Nat) : Int)) := by
  obtain ⟨_, ao', cap', hv, _, h⟩ := h
  simp only [Value.slice.injEq, true_and] at hv
  obtain ⟨rfl, rfl⟩ := hv
  rcases h with ⟨h, _⟩ | ⟨b, off, h1, h2, h3⟩
  · rw [h] at hj; simp at hj
  · exact ⟨b, off, h1, h2, h3 j hj⟩

end Go.Proofs.YtocladhggcaokaaGreatDoor
namespace Go.Proofs.YtocladhggcaokaaGreatDoor
open Go.RowKit

end Go.Proofs.YtocladhggcaokaaGreatDoor
namespace Go.Proofs.YtocladhggcaokaaGreatDoor
open Go.RowKit

/-- The slice reads the same in whatever world keeps what lies above B. -/
def Apart8 (B : Nat) (w : World) (v : Value) (rs : List Nat) : Prop := ∀ W : World, w.heap.size ≤ W.heap.size → (∀ b, B < b → b < w.heap.size → W.heap[b]? = w.heap[b]?) → Sl .u8 W v rs
theorem Apart8.sl {B : Nat} {w : World} {v : Value} {rs : List Nat} (h : Apart8 B w v rs) : Sl .u8 w v rs := h w (Nat.le_refl _) fun _ _ _ => rfl
theorem Apart8.below {B : Nat} {w w' : World} {v : Value} {rs : List Nat} (h : Apart8 B w v rs) (hb : Below w.heap.size w w') : Apart8 B w' v rs :=
  fun W hs hW => h W (Nat.le_trans hb.size hs) fun b h1 h2 => (hW b h1 (Nat.lt_of_lt_of_le h2 hb.size)).trans (hb.block b h2)
theorem Apart8.set {B k : Nat} {w : World} {v u : Value} {rs : List Nat} (h : Apart8 B w v rs) : Apart8 B (w.setCell ⟨B, k, none⟩ u) v rs :=
  fun W hs hW => h W (by simpa using hs) fun b h1 h2 => (hW b h1 (by simpa using h2)).trans (Below.heap_setCell _ _ _ _ (by simp; omega))
theorem apart_own {e : TypeId} {B base : Nat} {w : World} {v : Value} {rs : List Nat} (h : w.ownsRow base e 1 v rs.length (rs.map fun (x : Nat) => Value.int .u8 (x : Int))) (hB : B < base) : Apart8 B w v rs := by
  intro W _ hW
  obtain ⟨h1, h2⟩ := h
  refine owns_sl (e := e) (base := base) (n := rs.length) ⟨h1, ?_⟩
  rcases h2 with h2 | ⟨g, cap, cur, hv, hg, hh, hr⟩
  · exact .inl h2
  · exact .inr ⟨g, cap, cur, hv, hg, (hW g (by omega) (Array.getElem?_eq_some_iff.1 hh).1).trans hh, hr⟩
/-- trim of digits, wherever they stand. -/
theorem dtrim_same (v : Value) (ds : List Nat) (N : Nat) (w : World) (hs : Sl .u8 w v ds) (hd : Db ds) (hv : dval ds = N) :
    Calls Tryz.prog 102 #[v] w fun e w' => ∃ v' es, e = .returned v' ∧ (∀ W, Sl .u8 W v ds → Sl .u8 W v' es) ∧ Db es ∧ Top es ∧ dval es = N ∧ w = w' := by
  refine (rtrim_any v ds w hs hd.wide).mono ?_
  rintro e w' ⟨v', n, rfl, hn, ht, hz, hsl, rfl⟩
  exact ⟨v', ds.take n, rfl, hsl, hd.take n, Top.take hn ht, by rw [dval_take hn hz, hv], rfl⟩
/-- What minus answers: digits that stand in memory of their own. -/
def DigPostA (N : Nat) (w : World) (e : Ending) (w' : World) : Prop :=
  ∃ v ds, e = .returned v ∧ (∀ B, B < w.heap.size → Apart8 B w' v ds) ∧ Sl .u8 w' v ds ∧ Db ds ∧ Top ds ∧ dval ds = N ∧ Below w.heap.size w w'

end Go.Proofs.YtocladhggcaokaaGreatDoor
