/- A law's variables in their boxes. -/
import Derived.Test.YtiekhjgfnmochaaDoorAns
import Derived.Test.YtiekhjgfnmochaaDoorRSound
import Derived.Test.YtiekhjgfnmochaaDoorSame
import Derived.Test.YtiekhjgfnmochaaDoorOwn
import Derived.Deep.RegionHeld3
import Derived.Deep.DeepCutAuto
namespace Go.Proofs.YtiekhjgfnmochaaDoor
open Go.RowKit

/-- Each of these boxes holds a sign and a slice of these limbs. -/
def Env (L : List (Nat × Bool × Value × List Nat)) (W : World) : Prop :=
  ∀ g n s xs, (g, n, s, xs) ∈ L → W.heap[g]? = some (.cells #[.bool n, s] 24 (0, 0)) ∧ Sl .u32 W s xs ∧ g < W.heap.size

theorem Env.nil (W : World) : Env [] W := fun _ _ _ _ h => by cases h
theorem Env.step {L : List (Nat × Bool × Value × List Nat)} {W W' : World} (h : Env L W) (hb : Below W.heap.size W W') : Env L W' := fun g n s xs hm =>
  ⟨by rw [hb.block g (h g n s xs hm).2.2]; exact (h g n s xs hm).1, (h g n s xs hm).2.1.below hb, Nat.lt_of_lt_of_le (h g n s xs hm).2.2 hb.size⟩
theorem Env.alloc {L : List (Nat × Bool × Value × List Nat)} {W : World} (h : Env L W) (o : Obj) : Env L (W.alloc o) := h.step (below1 W o)
theorem Env.drew {L : List (Nat × Bool × Value × List Nat)} {W : World} (h : Env L W) : Env L W.drew := h
theorem Env.push {L : List (Nat × Bool × Value × List Nat)} {W : World} (h : Env L W) {n : Bool} {s : Value} {xs : List Nat} (hs : Sl .u32 W s xs) :
    Env ((W.heap.size, n, s, xs) :: L) (W.alloc (.cells #[.bool n, s] 24)) := by
  intro g n' s' xs' hm
  rcases List.mem_cons.1 hm with hm | hm
  · simp only [Prod.mk.injEq] at hm
    obtain ⟨rfl, rfl, rfl, rfl⟩ := hm
    exact ⟨heap_alloc_new W _, hs.below (below1 W _), by simp⟩
  · exact h.alloc _ g n' s' xs' hm
theorem Env.cells {L : List (Nat × Bool × Value × List Nat)} {W : World} (h : Env L W) {g : Nat} {n : Bool} {s : Value} {xs : List Nat} (hm : (g, n, s, xs) ∈ L) :
    W.cell? ⟨g, 0, none⟩ = some (.bool n) ∧ W.cell? ⟨g, 1, none⟩ = some s := ⟨cell_heap (h g n s xs hm).1 0, cell_heap (h g n s xs hm).1 1⟩
theorem Env.sl {L : List (Nat × Bool × Value × List Nat)} {W : World} (h : Env L W) {g : Nat} {n : Bool} {s : Value} {xs : List Nat} (hm : (g, n, s, xs) ∈ L) : Sl .u32 W s xs := (h g n s xs hm).2.1

theorem zero_box {W W7 : World} (hb : Below (W.alloc (.cells #[.bool false, .slice none 0 0] 24)).heap.size (W.alloc (.cells #[.bool false, .slice none 0 0] 24)) W7) :
    W7.heap[W.heap.size]? = some (.cells #[.bool false, .slice none 0 0] 24 (0, 0)) := by
  rw [hb.block W.heap.size (by simp)]; exact heap_alloc_new W _
/-- A variable's box is filled. -/
theorem Env.fill {L : List (Nat × Bool × Value × List Nat)} {W W7 : World} (h : Env L W) (hb : Below (W.alloc (.cells #[.bool false, .slice none 0 0] 24)).heap.size (W.alloc (.cells #[.bool false, .slice none 0 0] 24)) W7)
    {s : Value} {xs : List Nat} (hs : Sl .u32 W7 s xs) (n : Bool) : Env ((W.heap.size, n, s, xs) :: L) ((W7.setCell ⟨W.heap.size, 0, none⟩ (.bool n)).setCell ⟨W.heap.size, 1, none⟩ s) := by
  have hz := zero_box hb
  have h7 : Env L W7 := (h.alloc _).step hb
  intro g n' s' xs' hm
  rcases List.mem_cons.1 hm with hm | hm
  · simp only [Prod.mk.injEq] at hm
    obtain ⟨rfl, rfl, rfl, rfl⟩ := hm
    refine ⟨?_, hs.box hz _ _, by have := hb.size; simp at this; simp; omega⟩
    simp only [World.setCell, Array.getElem?_modify]
    simp [hz]
  · have hlt := (h g n' s' xs' hm).2.2
    refine ⟨?_, (h7 g n' s' xs' hm).2.1.box hz _ _, by simpa using (h7 g n' s' xs' hm).2.2⟩
    rw [Below.heap_setCell _ _ _ _ (by simp; omega), Below.heap_setCell _ _ _ _ (by simp; omega)]
    exact (h7 g n' s' xs' hm).1
theorem Env.fillB {W W7 : World} {B : Nat} {a : World} (hB : Below B a W) (h : B ≤ W.heap.size) (hb : Below (W.alloc (.cells #[.bool false, .slice none 0 0] 24)).heap.size (W.alloc (.cells #[.bool false, .slice none 0 0] 24)) W7) (x y : Value) :
    Below B a ((W7.setCell ⟨W.heap.size, 0, none⟩ x).setCell ⟨W.heap.size, 1, none⟩ y) :=
  (((hB.alloc h _).trans (hb.mono (by simp; omega))).setCell h _).setCell h _
theorem zero_facts {W W7 : World} (hb : Below (W.alloc (.cells #[.bool false, .slice none 0 0] 24)).heap.size (W.alloc (.cells #[.bool false, .slice none 0 0] 24)) W7) :
    W7.cell? ⟨W.heap.size, 0, none⟩ = some (.bool false) ∧ W7.cell? ⟨W.heap.size, 1, none⟩ = some (.slice none 0 0) ∧ W7.frozen? ⟨W.heap.size, 0, none⟩ = false ∧ W7.frozen? ⟨W.heap.size, 1, none⟩ = false :=
  ⟨cell_heap (zero_box hb) 0, cell_heap (zero_box hb) 1, frozen_heap (zero_box hb) 0, frozen_heap (zero_box hb) 1⟩

theorem Env.ne {L : List (Nat × Bool × Value × List Nat)} {W : World} (h : Env L W) : ∀ g n s xs, (g, n, s, xs) ∈ L → g < W.heap.size := fun g n s xs hm => (h g n s xs hm).2.2
/-- A variable's box, laid before, is filled. -/
theorem Env.put {L : List (Nat × Bool × Value × List Nat)} {W : World} {g : Nat} {n0 : Bool} {s0 : Option Addr} {l0 c0 : Nat} {xs0 : List Nat} (h : Env ((g, n0, .slice s0 l0 c0, xs0) :: L) W) {B : Nat} (hd : ∀ g n s xs, (g, n, s, xs) ∈ L → g < B) (hB : B ≤ g)
    {s : Value} {xs : List Nat} (hs : Sl .u32 W s xs) (n : Bool) : Env ((g, n, s, xs) :: L) ((W.setCell ⟨g, 0, none⟩ (.bool n)).setCell ⟨g, 1, none⟩ s) := by
  obtain ⟨hz, _, hlt⟩ := h g n0 _ xs0 List.mem_cons_self
  intro g' n' s' xs' hm
  rcases List.mem_cons.1 hm with hm | hm
  · simp only [Prod.mk.injEq] at hm
    obtain ⟨rfl, rfl, rfl, rfl⟩ := hm
    refine ⟨?_, hs.box hz _ _, by simpa using hlt⟩
    simp only [World.setCell, Array.getElem?_modify]
    simp [hz]
  · have h2 := h g' n' s' xs' (List.mem_cons_of_mem _ hm)
    have h3 := hd g' n' s' xs' hm
    refine ⟨?_, h2.2.1.box hz _ _, by simpa using h2.2.2⟩
    rw [Below.heap_setCell _ _ _ _ (by simp; omega), Below.heap_setCell _ _ _ _ (by simp; omega)]
    exact h2.1
theorem Env.zfacts {L : List (Nat × Bool × Value × List Nat)} {W : World} {g : Nat} {n0 : Bool} {s0 : Value} {xs0 : List Nat} (h : Env ((g, n0, s0, xs0) :: L) W) :
    W.cell? ⟨g, 0, none⟩ = some (.bool n0) ∧ W.cell? ⟨g, 1, none⟩ = some s0 ∧ W.frozen? ⟨g, 0, none⟩ = false ∧ W.frozen? ⟨g, 1, none⟩ = false :=
  ⟨cell_heap (h g n0 s0 xs0 List.mem_cons_self).1 0, cell_heap (h g n0 s0 xs0 List.mem_cons_self).1 1, frozen_heap (h g n0 s0 xs0 List.mem_cons_self).1 0, frozen_heap (h g n0 s0 xs0 List.mem_cons_self).1 1⟩
/-- A box for a variable, not filled yet. -/
theorem Env.zero {L : List (Nat × Bool × Value × List Nat)} {W : World} (h : Env L W) : Env ((W.heap.size, false, .slice none 0 0, []) :: L) (W.alloc (.cells #[.bool false, .slice none 0 0] 24)) := h.push (Sl.nil _ _)

/-- What stands behind 'x, e := an operation': x's box, and what it came to. -/
def Made (L : List (Nat × Bool × Value × List Nat)) (N : Int) (w : World) (sx se : Value) (W : World) : Prop :=
  ∃ g n ao l cap rs c, sx = .pointer (some ⟨g, 0, none⟩) ∧ se = .int .i64 c ∧ Env ((g, n, .slice ao l cap, rs) :: L) W ∧ w.heap.size ≤ g ∧ Below w.heap.size w W ∧
    ((c = 0 ∧ Snd n rs ∧ ival n rs = N) ∨ (c = 6 ∧ n = false ∧ rs = [] ∧ 1000000000 ^ 64 ≤ N.natAbs))

/-- What an operation on two sound numbers answers, the struct opened. -/
def OpPost (N : Int) (w : World) (e : Ending) (w' : World) : Prop :=
  ∃ neg ao l cap rs c, e = .returned (.tuple #[.agg #[.bool neg, .slice ao l cap], .int .i64 c]) ∧ Sl .u32 w' (.slice ao l cap) rs ∧ Below w.heap.size w w' ∧
    ((c = 0 ∧ Snd neg rs ∧ ival neg rs = N) ∨ (c = 6 ∧ neg = false ∧ rs = [] ∧ 1000000000 ^ 64 ≤ N.natAbs))
theorem res_open {N : Int} {w : World} {e : Ending} {w' : World} (h : ResPost N w e w') : OpPost N w e w' := by
  obtain ⟨v, neg, rs, c, rfl, ⟨sv, rfl, hs⟩, hb, hr⟩ := h
  obtain ⟨hm, ao, cap, rfl, hh⟩ := hs
  exact ⟨neg, ao, _, cap, rs, c, rfl, ⟨hm, ao, cap, rfl, hh⟩, hb, hr⟩
/-- .. where it can't be too large. -/
theorem res_ok {N : Int} {neg : Bool} {rs : List Nat} {c : Int} (h : (c = 0 ∧ Snd neg rs ∧ ival neg rs = N) ∨ (c = 6 ∧ neg = false ∧ rs = [] ∧ 1000000000 ^ 64 ≤ N.natAbs)) (hN : N.natAbs < 1000000000 ^ 64) : c = 0 ∧ Snd neg rs ∧ ival neg rs = N := by
  rcases h with h | ⟨_, _, _, h⟩
  · exact h
  · omega
/-- A copy, the struct opened. -/
def OwnPost (n : Bool) (xs : List Nat) (w : World) (e : Ending) (w' : World) : Prop :=
  ∃ ao l cap, e = .returned (.agg #[.bool n, .slice ao l cap]) ∧ Sl .u32 w' (.slice ao l cap) xs ∧ Below w.heap.size w w'
theorem own_open (n : Bool) (s : Value) (xs : List Nat) (w : World) (hs : Sl .u32 w s xs) (hl : xs.length < 1000000000) :
    Calls Tryd.prog 15 #[.agg #[.bool n, s]] w (OwnPost n xs w) :=
  (own_any n s xs w hs hl).mono fun e w' ⟨v, he, ⟨sv, hv, hsl⟩, hb⟩ => by
    subst he; subst hv
    obtain ⟨hm, ao, cap, rfl, hh⟩ := hsl
    exact ⟨ao, _, cap, rfl, ⟨hm, ao, cap, rfl, hh⟩, hb⟩
end Go.Proofs.YtiekhjgfnmochaaDoor
