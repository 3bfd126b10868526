/- What words a text has. No walk here. -/
import Derived.Test.YtegengnffdlplaaGreatDoorTkSc
import Derived.Test.YtegengnffdlplaaGreatDoorUEncMath
import Derived.Test.YtegengnffdlplaaGreatDoorAnsU
namespace Go.Proofs.YtegengnffdlplaaGreatDoor
open Go.RowKit

def enN (c : Nat) : Bool := enB (c : Int)
/-- A datum of a word: kind, text, sign, limbs. -/
structure Dt where
  k : Nat
  t : List Nat
  n : Bool
  r : List Nat

/-- What num.Parse says of a text. -/
def ParR (s : ByteArray) (x : Bool × List Nat × Bool) : Prop :=
  (okA s ∧ x.2.2 = true ∧ Snd x.1 x.2.1 ∧ val x.2.1 = dval (bodyA s) ∧ (x.2.1 ≠ [] → x.1 = negA s)) ∨ (x.2.2 = false ∧ x.1 = false ∧ x.2.1 = [] ∧ (okA s → 1000000000 ^ 64 ≤ dval (bodyA s)))
open Classical in
/-- The number that a text is. -/
noncomputable def parA (s : ByteArray) : Bool × List Nat × Bool := if h : ∃ x, ParR s x then h.choose else (false, [], false)
theorem parA_eq {s : ByteArray} {n o : Bool} {r : List Nat} (h : ParR s (n, r, o)) : parA s = (n, r, o) := by
  have hx : ∃ x, ParR s x := ⟨_, h⟩
  unfold parA
  rw [dif_pos hx]
  have h2 := hx.choose_spec
  generalize hx.choose = y at *
  obtain ⟨a, b, c⟩ := y
  obtain ⟨rfl, rfl, rfl⟩ := parse_unique h2 h
  rfl

def digN (c : Nat) : Bool := decide (48 ≤ c ∧ c ≤ 57)
def sgnN (c : Nat) : Bool := decide (c = 43 ∨ c = 45)
/-- Does it begin like a number? -/
def numeA (bs : List Nat) : Bool := digN (limb bs 0) || (sgnN (limb bs 0) && digN (limb bs 1))
/-- Is it a symbol's text? -/
def symA (bs : List Nat) : Bool := decide (bs ≠ [] ∧ bs ≠ [46] ∧ bs.length ≤ 64 ∧ limb bs 0 ≠ 35) && !numeA bs && decide ((chars bs 0).2 = none) && (chars bs 0).1.all fun c => !enN c
def tTrue : List Nat := [35, 116]
def tTrue' : List Nat := [35, 116, 114, 117, 101]
def tFalse : List Nat := [35, 102]
def tFalse' : List Nat := [35, 102, 97, 108, 115, 101]
/-- What a word is by itself. -/
noncomputable def atmA (bs : List Nat) : Option Dt :=
  if bs = tTrue ∨ bs = tTrue' then some ⟨8, [], false, []⟩ else if bs = tFalse ∨ bs = tFalse' then some ⟨9, [], false, []⟩
  else if (parA (mkB bs)).2.2 then some ⟨7, [], (parA (mkB bs)).1, (parA (mkB bs)).2.1⟩ else if symA bs then some ⟨4, bs, false, []⟩ else none

/-- A word. -/
structure Wd where
  kind : Nat
  txt : List Nat
  d : Dt
  dat : Nat
  pl : Nat
def zD : Dt := ⟨0, [], false, []⟩
end Go.Proofs.YtegengnffdlplaaGreatDoor
namespace Go.Proofs.YtegengnffdlplaaGreatDoor
open Go.RowKit

/-- A datum's box that holds nothing yet. -/
def DB (W : World) (g : Nat) : Prop := W.heap[g]? = some (.cells #[.int .i64 0, .string ⟨#[]⟩, .bool false, .slice none 0 0, .slice none 0 0, .int .i64 0] 77 (0, 0))
theorem DB.lt {W : World} {g : Nat} (h : DB W g) : g < W.heap.size := (Array.getElem?_eq_some_iff.1 h).1
theorem DB.step {W W' : World} {g : Nat} (h : DB W g) (hb : Below W.heap.size W W') : DB W' g := (hb.block g h.lt).trans h
theorem DB.new (W : World) : DB (W.alloc (.cells #[.int .i64 0, .string ⟨#[]⟩, .bool false, .slice none 0 0, .slice none 0 0, .int .i64 0] 77)) W.heap.size := heap_alloc_new W _
structure DBF (W : World) (g : Nat) : Prop where
  c0 : W.cell? ⟨g, 0, none⟩ = some (.int .i64 0)
  c1 : W.cell? ⟨g, 1, none⟩ = some (.string ⟨#[]⟩)
  c2 : W.cell? ⟨g, 2, none⟩ = some (.bool false)
  c3 : W.cell? ⟨g, 3, none⟩ = some (.slice none 0 0)
  c4 : W.cell? ⟨g, 4, none⟩ = some (.slice none 0 0)
  c5 : W.cell? ⟨g, 5, none⟩ = some (.int .i64 0)
  f0 : W.frozen? ⟨g, 0, none⟩ = false
  f1 : W.frozen? ⟨g, 1, none⟩ = false
  f2 : W.frozen? ⟨g, 2, none⟩ = false
  f3 : W.frozen? ⟨g, 3, none⟩ = false
  f4 : W.frozen? ⟨g, 4, none⟩ = false
  f5 : W.frozen? ⟨g, 5, none⟩ = false
theorem DB.facts {W : World} {g : Nat} (h : DB W g) : DBF W g :=
  ⟨cell_heap h 0, cell_heap h 1, cell_heap h 2, cell_heap h 3, cell_heap h 4, cell_heap h 5, frozen_heap h 0, frozen_heap h 1, frozen_heap h 2, frozen_heap h 3, frozen_heap h 4, frozen_heap h 5⟩

theorem DB.noU {W : World} {g : Nat} (h : DB W g) : NoU W g := by
  refine NoU.of_cells h fun v hv x => ?_
  simp at hv
  rcases hv with rfl | rfl | rfl | rfl | rfl | rfl <;> simp

/-- A datum stored into its box. -/
theorem DB.fill {W : World} {g : Nat} (h : DB W g) (a0 a1 a2 a3 a4 a5 : Value) :
    ((((((W.setCell ⟨g, 0, none⟩ a0).setCell ⟨g, 1, none⟩ a1).setCell ⟨g, 2, none⟩ a2).setCell ⟨g, 3, none⟩ a3).setCell ⟨g, 4, none⟩ a4).setCell ⟨g, 5, none⟩ a5).heap[g]? = some (.cells #[a0, a1, a2, a3, a4, a5] 77 (0, 0)) ∧
    Ks g W ((((((W.setCell ⟨g, 0, none⟩ a0).setCell ⟨g, 1, none⟩ a1).setCell ⟨g, 2, none⟩ a2).setCell ⟨g, 3, none⟩ a3).setCell ⟨g, 4, none⟩ a4).setCell ⟨g, 5, none⟩ a5) := by
  refine ⟨?_, ((((((Ks.refl g W).set 0 _).set 1 _).set 2 _).set 3 _).set 4 _).set 5 _⟩
  unfold DB at h
  simp only [World.setCell, Array.getElem?_modify, if_true, h]
  rfl
end Go.Proofs.YtegengnffdlplaaGreatDoor
