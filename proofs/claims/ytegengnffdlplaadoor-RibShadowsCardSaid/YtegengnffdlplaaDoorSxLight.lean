/- A row of things of one size, gathered. No walk here. | A piece of syntax that came in, with all that stands in it. No walk here. | law10's light: is there not too much in a piece of syntax? -/
import Derived.Test.YtegengnffdlplaaDoorStMem
import Derived.Deep.MidRow
import Derived.SliceStrings
import Derived.SizedLaws
import Derived.Test.YtegengnffdlplaaDoorMem
import Derived.StillTailTactics
namespace Go.Proofs.YtegengnffdlplaaDoor
open Go.ChangeShapes Go.WideShapes Go.ChangeAt Go.RowKit

end Go.Proofs.YtegengnffdlplaaDoor
namespace Go.Proofs.YtegengnffdlplaaDoor
open Go.ChangeShapes Go.WideShapes Go.ChangeAt Go.RowKit

/-- A piece of syntax: kind, text, number's sign and limbs, what stands in it, where it stands, marks, substitutions. -/
inductive Sx where
  | mk (k : Int) (t : ByteArray) (n : Bool) (r : List Nat) (l : List Sx) (a : Int) (m s : List Int)
def Sx.k : Sx → Int | .mk k _ _ _ _ _ _ _ => k
def Sx.t : Sx → ByteArray | .mk _ t _ _ _ _ _ _ => t
def Sx.n : Sx → Bool | .mk _ _ n _ _ _ _ _ => n
def Sx.r : Sx → List Nat | .mk _ _ _ r _ _ _ _ => r
def Sx.l : Sx → List Sx | .mk _ _ _ _ l _ _ _ => l
def Sx.a : Sx → Int | .mk _ _ _ _ _ a _ _ => a
def Sx.m : Sx → List Int | .mk _ _ _ _ _ _ m _ => m
def Sx.s : Sx → List Int | .mk _ _ _ _ _ _ _ s => s
/-- The eight cells of a piece, and all behind them. -/
inductive SLay (w : World) : Sx → List Value → Prop
  | mk {k : Int} {t : ByteArray} {n : Bool} {r : List Nat} {l : List Sx} {a : Int} {m s : List Int} {lv av mv sv : Value} {us : List Value} (ht : t.size ≤ maxLen) (hlim : ∀ x ∈ r, x < 4294967296) (hr : RowV w lv r.length 1 (ucs r)) (hrow : RowV w av l.length 8 us) (hm : RowV w mv m.length 1 (ics .i64 m)) (hs : RowV w sv s.length 1 (ics .i64 s))
      (hin : ∀ (i : Nat) (h : i < l.length), SLay w (l[i]'h) ((us.drop (i * 8)).take 8)) : SLay w (.mk k t n r l a m s) [.int .i64 k, .string t, .bool n, lv, av, .int .i64 a, mv, sv]
theorem SLay.keep {w w' : World} (hb : Below w.heap.size w w') {d : Sx} {us : List Value} (h : SLay w d us) : SLay w' d us := by
  induction h with
  | mk ht hlim hr hrow hm hs hin ih => exact .mk ht hlim (hr.below hb) (hrow.below hb) (hm.below hb) (hs.below hb) ih
theorem SLay.len {w : World} {d : Sx} {us : List Value} (h : SLay w d us) : us.length = 8 := by cases h; rfl
theorem SLay.open' {w : World} {d : Sx} {us : List Value} (h : SLay w d us) : ∃ lv av mv sv vs, us = [.int .i64 d.k, .string d.t, .bool d.n, lv, av, .int .i64 d.a, mv, sv] ∧ d.t.size ≤ maxLen ∧ (∀ x ∈ d.r, x < 4294967296) ∧ RowV w lv d.r.length 1 (ucs d.r) ∧ RowV w av d.l.length 8 vs ∧ RowV w mv d.m.length 1 (ics .i64 d.m) ∧ RowV w sv d.s.length 1 (ics .i64 d.s) ∧ ∀ (i : Nat) (h : i < d.l.length), SLay w (d.l[i]'h) ((vs.drop (i * 8)).take 8) := by
  cases h with
  | mk ht hlim hr hrow hm hs hin => exact ⟨_, _, _, _, _, rfl, ht, hlim, hr, hrow, hm, hs, hin⟩

theorem row_nil8 (w : World) (size : Nat) : RowV w (.slice none 0 0) 0 size [] := ⟨by simp, Nat.zero_le _, none, 0, rfl, Nat.le_refl _, .inl ⟨rfl, fun _ => rfl⟩⟩
end Go.Proofs.YtegengnffdlplaaDoor
namespace Go.Proofs.YtegengnffdlplaaDoor
open Go.RowKit

theorem rowS8 {W : World} {g : Nat} {a0 a1 a2 a3 a4 a5 a6 a7 : Value} {e : TypeId} (h : W.heap[g]? = some (.cells #[a0, a1, a2, a3, a4, a5, a6, a7] e (0, 0))) :
    W.cell? ⟨g, 0, none⟩ = some a0 ∧ W.cell? ⟨g, 1, none⟩ = some a1 ∧ W.cell? ⟨g, 2, none⟩ = some a2 ∧ W.cell? ⟨g, 3, none⟩ = some a3 ∧ W.cell? ⟨g, 4, none⟩ = some a4 ∧ W.cell? ⟨g, 5, none⟩ = some a5 ∧ W.cell? ⟨g, 6, none⟩ = some a6 ∧ W.cell? ⟨g, 7, none⟩ = some a7 :=
  ⟨cell_heap h 0, cell_heap h 1, cell_heap h 2, cell_heap h 3, cell_heap h 4, cell_heap h 5, cell_heap h 6, cell_heap h 7⟩
/-- The i-th of a row of pieces. -/
theorem row_sx {w : World} {av : Value} {l : List Sx} {us : List Value} (hrow : RowV w av l.length 8 us) (hin : ∀ (i : Nat) (h : i < l.length), SLay w (l[i]'h) ((us.drop (i * 8)).take 8)) {i : Nat} (h : i < l.length) :
    ∃ b off cap v0 v1 v2 v3 v4 v5 v6 v7, av = .slice (some ⟨b, off, none⟩) l.length cap ∧ l.length ≤ cap ∧ b < w.heap.size ∧ SLay w (l[i]'h) [v0, v1, v2, v3, v4, v5, v6, v7] ∧ w.cell? ⟨b, off + i * 8, none⟩ = some v0 ∧ w.cell? ⟨b, off + i * 8 + 1, none⟩ = some v1 ∧ w.cell? ⟨b, off + i * 8 + 2, none⟩ = some v2 ∧
      w.cell? ⟨b, off + i * 8 + 3, none⟩ = some v3 ∧ w.cell? ⟨b, off + i * 8 + 4, none⟩ = some v4 ∧ w.cell? ⟨b, off + i * 8 + 5, none⟩ = some v5 ∧ w.cell? ⟨b, off + i * 8 + 6, none⟩ = some v6 ∧ w.cell? ⟨b, off + i * 8 + 7, none⟩ = some v7 := by
  obtain ⟨h1, _, ao, cap, h3, h4, h5⟩ := hrow
  have hl := hin i h
  have hlen := hl.len
  rcases h5 with ⟨h5, _⟩ | ⟨b, off, h5, h6, h7⟩
  · omega
  · have hg : ∀ j, j < 8 → ((us.drop (i * 8)).take 8)[j]? = us[i * 8 + j]? := fun j hj => by rw [List.getElem?_take, if_pos hj, List.getElem?_drop]
    generalize (us.drop (i * 8)).take 8 = es at *
    match es, hlen with
    | [v0, v1, v2, v3, v4, v5, v6, v7], _ =>
      subst h5
      have hc : ∀ j u, j < 8 → ([v0, v1, v2, v3, v4, v5, v6, v7] : List Value)[j]? = some u → w.cell? ⟨b, off + i * 8 + j, none⟩ = some u := fun j u hj hu => by
        rw [Nat.add_assoc]
        exact h7 _ _ (by rw [← hg j hj]; exact hu)
      exact ⟨b, off, cap, v0, v1, v2, v3, v4, v5, v6, v7, h3, h4, h6, hl, hc 0 _ (by omega) rfl, hc 1 _ (by omega) rfl, hc 2 _ (by omega) rfl, hc 3 _ (by omega) rfl, hc 4 _ (by omega) rfl, hc 5 _ (by omega) rfl, hc 6 _ (by omega) rfl, hc 7 _ (by omega) rfl⟩
end Go.Proofs.YtegengnffdlplaaDoor
