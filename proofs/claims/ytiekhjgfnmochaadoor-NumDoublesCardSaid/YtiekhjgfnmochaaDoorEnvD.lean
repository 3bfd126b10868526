/- A law's variables in their boxes, the newest ahead, and boxes that are laid before they are filled. -/
import Derived.Test.YtiekhjgfnmochaaDoorAllEnv
import Derived.Test.YtiekhjgfnmochaaDoorModMath
namespace Go.Proofs.YtiekhjgfnmochaaDoor
open Go.RowKit

/-- What a law is to answer. -/
def TruePost (w : World) (e : Ending) (w' : World) : Prop := e = .returned (.bool true) ∧ Below w.heap.size w w'

abbrev Ent := Nat × Bool × Value × List Nat
/-- The boxes, the newest ahead. -/
def EnvD (L : List Ent) (W : World) : Prop := Env L W ∧ L.Pairwise fun a b => b.1 < a.1

theorem EnvD.nil (W : World) : EnvD [] W := ⟨Env.nil W, List.Pairwise.nil⟩
theorem EnvD.step {L : List Ent} {W W' : World} (h : EnvD L W) (hb : Below W.heap.size W W') : EnvD L W' := ⟨h.1.step hb, h.2⟩
theorem EnvD.drew {L : List Ent} {W : World} (h : EnvD L W) : EnvD L W.drew := ⟨h.1.drew, h.2⟩
theorem EnvD.push {L : List Ent} {W : World} (h : EnvD L W) {n : Bool} {s : Value} {xs : List Nat} (hs : Sl .u32 W s xs) :
    EnvD ((W.heap.size, n, s, xs) :: L) (W.alloc (.cells #[.bool n, s] 24)) :=
  ⟨h.1.push hs, List.pairwise_cons.2 ⟨fun e he => (h.1 e.1 e.2.1 e.2.2.1 e.2.2.2 he).2.2, h.2⟩⟩
theorem EnvD.zero {L : List Ent} {W : World} (h : EnvD L W) : EnvD ((W.heap.size, false, .slice none 0 0, []) :: L) (W.alloc (.cells #[.bool false, .slice none 0 0] 24)) := h.push (Sl.nil _ _)
theorem EnvD.zero2 {L : List Ent} {W : World} (h : EnvD L W) : EnvD ((W.heap.size + 1, false, .slice none 0 0, []) :: (W.heap.size, false, .slice none 0 0, []) :: L) ((W.alloc (.cells #[.bool false, .slice none 0 0] 24)).alloc (.cells #[.bool false, .slice none 0 0] 24)) := by
  have := h.zero.zero
  simpa only [World.size_alloc] using this
theorem EnvD.push2 {L : List Ent} {W : World} (h : EnvD L W) {n m : Bool} {s t : Value} {xs ys : List Nat} (hs : Sl .u32 W s xs) (ht : Sl .u32 W t ys) :
    EnvD ((W.heap.size + 1, m, t, ys) :: (W.heap.size, n, s, xs) :: L) ((W.alloc (.cells #[.bool n, s] 24)).alloc (.cells #[.bool m, t] 24)) := by
  have := (h.push (n := n) hs).push (n := m) (ht.below (below1 W (.cells #[.bool n, s] 24)))
  simpa only [World.size_alloc] using this
theorem EnvD.sl {L : List Ent} {W : World} (h : EnvD L W) {g : Nat} {n : Bool} {s : Value} {xs : List Nat} (hm : (g, n, s, xs) ∈ L) : Sl .u32 W s xs := h.1.sl hm
theorem EnvD.cells {L : List Ent} {W : World} (h : EnvD L W) {g : Nat} {n : Bool} {s : Value} {xs : List Nat} (hm : (g, n, s, xs) ∈ L) :
    W.cell? ⟨g, 0, none⟩ = some (.bool n) ∧ W.cell? ⟨g, 1, none⟩ = some s := h.1.cells hm
theorem EnvD.facts {L : List Ent} {W : World} (h : EnvD L W) {g : Nat} {n : Bool} {s : Value} {xs : List Nat} (hm : (g, n, s, xs) ∈ L) :
    W.cell? ⟨g, 0, none⟩ = some (.bool n) ∧ W.cell? ⟨g, 1, none⟩ = some s ∧ W.frozen? ⟨g, 0, none⟩ = false ∧ W.frozen? ⟨g, 1, none⟩ = false :=
  ⟨(h.cells hm).1, (h.cells hm).2, frozen_heap (h.1 g n s xs hm).1 0, frozen_heap (h.1 g n s xs hm).1 1⟩

theorem env_fill {L L' : List Ent} {W : World} (h : Env L W) {g : Nat} {n n0 : Bool} {s0 : Option Addr} {l0 c0 : Nat} {xs0 : List Nat} (hz : (g, n0, .slice s0 l0 c0, xs0) ∈ L) {s : Value} {xs : List Nat} (hs : Sl .u32 W s xs)
    (hL : ∀ e ∈ L', e = (g, n, s, xs) ∨ (e ∈ L ∧ e.1 ≠ g)) : Env L' ((W.setCell ⟨g, 0, none⟩ (.bool n)).setCell ⟨g, 1, none⟩ s) := by
  obtain ⟨hzz, _, hlt⟩ := h _ _ _ _ hz
  intro g' n' s' xs' hm
  rcases hL _ hm with hm | ⟨hm, hne⟩
  · simp only [Prod.mk.injEq] at hm
    obtain ⟨rfl, rfl, rfl, rfl⟩ := hm
    refine ⟨?_, hs.box hzz _ _, by simpa using hlt⟩
    simp only [World.setCell, Array.getElem?_modify]
    simp [hzz]
  · have h2 := h g' n' s' xs' hm
    refine ⟨?_, h2.2.1.box hzz _ _, by simpa using h2.2.2⟩
    have hne' : g' ≠ g := hne
    rw [Below.heap_setCell _ _ _ _ (by simpa using hne'), Below.heap_setCell _ _ _ _ (by simpa using hne')]
    exact h2.1
/-- The newest box is filled. -/
theorem EnvD.fill0 {L : List Ent} {W : World} {g : Nat} {n0 : Bool} {s0 : Option Addr} {l0 c0 : Nat} {xs0 : List Nat} (h : EnvD ((g, n0, .slice s0 l0 c0, xs0) :: L) W) {s : Value} {xs : List Nat} (hs : Sl .u32 W s xs) (n : Bool) :
    EnvD ((g, n, s, xs) :: L) ((W.setCell ⟨g, 0, none⟩ (.bool n)).setCell ⟨g, 1, none⟩ s) := by
  have hp := List.pairwise_cons.1 h.2
  refine ⟨env_fill h.1 List.mem_cons_self hs fun e he => ?_, List.pairwise_cons.2 hp⟩
  rcases List.mem_cons.1 he with he | he
  · exact .inl he
  · exact .inr ⟨List.mem_cons_of_mem _ he, Nat.ne_of_lt (hp.1 e he)⟩
/-- The newest box but one is filled. -/
theorem EnvD.fill1 {L : List Ent} {W : World} {g : Nat} {x : Ent} {n0 : Bool} {s0 : Option Addr} {l0 c0 : Nat} {xs0 : List Nat} (h : EnvD (x :: (g, n0, .slice s0 l0 c0, xs0) :: L) W) {s : Value} {xs : List Nat} (hs : Sl .u32 W s xs) (n : Bool) :
    EnvD (x :: (g, n, s, xs) :: L) ((W.setCell ⟨g, 0, none⟩ (.bool n)).setCell ⟨g, 1, none⟩ s) := by
  have hp := List.pairwise_cons.1 h.2
  have hq := List.pairwise_cons.1 hp.2
  refine ⟨env_fill h.1 (List.mem_cons_of_mem _ List.mem_cons_self) hs fun e he => ?_, List.pairwise_cons.2 ⟨fun e he => ?_, List.pairwise_cons.2 hq⟩⟩
  · rcases List.mem_cons.1 he with rfl | he
    · exact .inr ⟨List.mem_cons_self, Nat.ne_of_gt (hp.1 (g, n0, .slice s0 l0 c0, xs0) List.mem_cons_self)⟩
    · rcases List.mem_cons.1 he with he | he
      · exact .inl he
      · exact .inr ⟨List.mem_cons_of_mem _ (List.mem_cons_of_mem _ he), Nat.ne_of_lt (hq.1 e he)⟩
  · rcases List.mem_cons.1 he with rfl | he
    · exact hp.1 (g, n0, .slice s0 l0 c0, xs0) List.mem_cons_self
    · exact hp.1 e (List.mem_cons_of_mem _ he)
/-- What reads elsewhere reads so when a box is filled. -/
theorem EnvD.keep {L : List Ent} {W : World} (h : EnvD L W) {g : Nat} {n0 : Bool} {s0 : Option Addr} {l0 c0 : Nat} {xs0 : List Nat} (hz : (g, n0, .slice s0 l0 c0, xs0) ∈ L) {s : Value} {xs : List Nat} (hs : Sl .u32 W s xs) (x y : Value) :
    Sl .u32 ((W.setCell ⟨g, 0, none⟩ x).setCell ⟨g, 1, none⟩ y) s xs := hs.box (h.1 _ _ _ _ hz).1 _ _
/-- The newest two boxes are filled, the newest first. -/
theorem EnvD.fill01 {L : List Ent} {W : World} {g h : Nat} (E : EnvD ((h, false, .slice none 0 0, []) :: (g, false, .slice none 0 0, []) :: L) W) {s t : Value} {xs ys : List Nat} (ht : Sl .u32 W t ys) (m : Bool) (hs : Sl .u32 W s xs) (n : Bool) :
    EnvD ((h, m, t, ys) :: (g, n, s, xs) :: L) ((((W.setCell ⟨h, 0, none⟩ (.bool m)).setCell ⟨h, 1, none⟩ t).setCell ⟨g, 0, none⟩ (.bool n)).setCell ⟨g, 1, none⟩ s) :=
  (E.fill0 ht m).fill1 (E.keep List.mem_cons_self hs _ _) n
/-- .. the elder one first. -/
theorem EnvD.fill10 {L : List Ent} {W : World} {g h : Nat} (E : EnvD ((h, false, .slice none 0 0, []) :: (g, false, .slice none 0 0, []) :: L) W) {s t : Value} {xs ys : List Nat} (ht : Sl .u32 W t ys) (m : Bool) (hs : Sl .u32 W s xs) (n : Bool) :
    EnvD ((h, m, t, ys) :: (g, n, s, xs) :: L) ((((W.setCell ⟨g, 0, none⟩ (.bool n)).setCell ⟨g, 1, none⟩ s).setCell ⟨h, 0, none⟩ (.bool m)).setCell ⟨h, 1, none⟩ t) :=
  (E.fill1 hs n).fill0 (E.keep (List.mem_cons_of_mem _ List.mem_cons_self) ht _ _) m
/-- One box is filled, one is laid filled. -/
theorem EnvD.fillpush {L : List Ent} {W : World} {g : Nat} (E : EnvD ((g, false, .slice none 0 0, []) :: L) W) {s t : Value} {xs ys : List Nat} (hs : Sl .u32 W s xs) (n : Bool) (ht : Sl .u32 W t ys) (m : Bool) :
    EnvD ((W.heap.size, m, t, ys) :: (g, n, s, xs) :: L) (((W.setCell ⟨g, 0, none⟩ (.bool n)).setCell ⟨g, 1, none⟩ s).alloc (.cells #[.bool m, t] 24)) := by
  have := (E.fill0 hs n).push (n := m) (E.keep List.mem_cons_self ht (.bool n) s)
  simpa using this

theorem below_set2 {B : Nat} {w W : World} (h : Below B w W) {g : Nat} (hg : B ≤ g) (x y : Value) : Below B w ((W.setCell ⟨g, 0, none⟩ x).setCell ⟨g, 1, none⟩ y) := (h.setCell hg _).setCell hg _
theorem EnvD.old {L : List Ent} {W : World} (h : EnvD L W) {e : Ent} (he : e ∈ L) : e.1 < W.heap.size := (h.1 e.1 e.2.1 e.2.2.1 e.2.2.2 he).2.2
theorem EnvD.ne01 {L : List Ent} {W : World} {g h : Nat} {n m : Bool} {s t : Value} {xs ys : List Nat} (E : EnvD ((h, m, t, ys) :: (g, n, s, xs) :: L) W) : ¬ (h = g) ∧ ¬ (g = h) := by
  have := (List.pairwise_cons.1 E.2).1 _ List.mem_cons_self
  simp only at this
  exact ⟨by omega, by omega⟩

theorem EnvD.start {L : List Ent} {W : World} (_h : EnvD L W) : Below W.heap.size W W := Below.refl _ _
theorem EnvD.held {L : List Ent} {W0 W : World} (h : EnvD L W0) (hb : Below W0.heap.size W0 W) : EnvD L W := h.step hb

/-- What stands behind 'x, y, e := an operation': their boxes, and what they came to. -/
def MadeD (R : Int → Bool → List Nat → Bool → List Nat → Prop) (L : List Ent) (w : World) (sx sy se : Value) (W : World) : Prop :=
  ∃ L' g h n m ao al ac bo bl bc q r c, sx = .pointer (some ⟨g, 0, none⟩) ∧ sy = .pointer (some ⟨h, 0, none⟩) ∧ se = .int .i64 c ∧ EnvD L' W ∧ (∀ e ∈ L, e ∈ L') ∧ (g, n, .slice ao al ac, q) ∈ L' ∧ (h, m, .slice bo bl bc, r) ∈ L' ∧ Below w.heap.size w W ∧ R c n q m r
/-- .. 'x, e := an operation'. -/
def MadeE (R : Int → Bool → List Nat → Prop) (L : List Ent) (w : World) (sx se : Value) (W : World) : Prop :=
  ∃ L' g n ao al ac q c, sx = .pointer (some ⟨g, 0, none⟩) ∧ se = .int .i64 c ∧ EnvD L' W ∧ (∀ e ∈ L, e ∈ L') ∧ (g, n, .slice ao al ac, q) ∈ L' ∧ Below w.heap.size w W ∧ R c n q
theorem mem1 {L : List Ent} {x : Ent} : ∀ e ∈ L, e ∈ x :: L := fun _ h => List.mem_cons_of_mem _ h
theorem mem2 {L : List Ent} {x y : Ent} : ∀ e ∈ L, e ∈ x :: y :: L := fun _ h => List.mem_cons_of_mem _ (List.mem_cons_of_mem _ h)
end Go.Proofs.YtiekhjgfnmochaaDoor
