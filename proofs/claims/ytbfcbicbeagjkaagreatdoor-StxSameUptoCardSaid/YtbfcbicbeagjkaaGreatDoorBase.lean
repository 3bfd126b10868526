/- x -/
import Derived.Test.YtbfcbicbeagjkaaGreatDoorProg
import Derived.ProofKit
import Derived.OpenShut
import Derived.ChangeOld
import Derived.WalkKit
import Derived.WalkSpells
import Derived.WalkLawsBesides
import Derived.Lib.Hide
namespace Go.Proofs.YtbfcbicbeagjkaaGreatDoor
open Go.ChangeShapes Go.WideShapes Go.ChangeAt Go.RowKit
theorem own : ownKnob Tryz.prog.godebug = none := by kernel_rfl
theorem laidOut : laidOutB Tryz.prog = true := by kernel_rfl
end Go.Proofs.YtbfcbicbeagjkaaGreatDoor
namespace Go.Proofs.YtbfcbicbeagjkaaGreatDoor
open Go.RowKit
def limb (xs : List Nat) (i : Nat) : Nat := xs.getD i 0
theorem limb_lt {xs : List Nat} {i : Nat} (h : i < xs.length) : limb xs i = xs[i] := by unfold limb; simp [h]
def Sl (k : IntKind) (w : World) (v : Value) (xs : List Nat) : Prop :=
 xs.length ≤ maxLen ∧ ∃ ao cap, v = .slice ao xs.length cap ∧ xs.length ≤ cap ∧ ((xs = [] ∧ (ao = none → cap = 0)) ∨ ∃ b off, ao = some ⟨b, off, none⟩ ∧ b < w.heap.size ∧ ∀ j, j < xs.length → w.cell? ⟨b, off + j, none⟩ = some (.int k ((limb xs j : Nat) : Int)))
theorem Sl.below {k : IntKind} {w w' : World} {v : Value} {xs : List Nat} (h : Sl k w v xs) (hb : Below w.heap.size w w') : Sl k w' v xs := by
 obtain ⟨hm, ao, cap, hv, hc, h⟩ := h
 refine ⟨hm, ao, cap, hv, hc, ?_⟩
 rcases h with h | ⟨b, off, ha, hlt, hcell⟩
 . exact .inl h
 . refine .inr ⟨b, off, ha, Nat.lt_of_lt_of_le hlt hb.size, fun j hj => ?_⟩
   rw [hb.cell (p := ⟨b, off + j, none⟩) hlt]
   exact hcell j hj
theorem cell_other {w : World} {a p : Addr} (h : p.block ≠ a.block) (u : Value) : (w.setCell a u).cell? p = w.cell? p := World.cell?_of_block (w := w) (Below.heap_setCell w a u p.block h)
theorem below1 (w : World) (a : Obj) : Below w.heap.size w (w.alloc a) := (Below.refl _ w).alloc (Nat.le_refl _) _
theorem below2 (w : World) (a b : Obj) : Below w.heap.size w ((w.alloc a).alloc b) := (below1 w a).alloc (by simp) _
theorem below3 (w : World) (a b c : Obj) : Below w.heap.size w (((w.alloc a).alloc b).alloc c) := (below2 w a b).alloc (by simp; omega) _
theorem ret_int {k : IntKind} {a b : Int} (h : a = b) : Ending.returned (.int k a) = .returned (.int k b) := by rw [h]
theorem cell_heap {w : World} {g : Nat} {cs : Array Value} {e : TypeId} (h : w.heap[g]? = some (.cells cs e (0, 0))) (j : Nat) : w.cell? ⟨g, j, none⟩ = cs[j]? := cell_of_row w g j cs e (0, 0) h
theorem frozen_heap {w : World} {g : Nat} {cs : Array Value} {e : TypeId} (h : w.heap[g]? = some (.cells cs e (0, 0))) (j : Nat) : w.frozen? ⟨g, j, none⟩ = false := by
 simp [World.frozen?, h]
def Row (k : IntKind) (e : TypeId) (w : World) (g : Nat) (rs : List Nat) : Prop := w.heap[g]? = some (.cells (rs.map fun (x : Nat) => Value.int k (x : Int)).toArray e (0, 0))
theorem owns_slice {w : World} {base : Nat} {e : TypeId} {v : Value} {n : Nat} {xs : List Value} (h : w.ownsRow base e 1 v n xs) : ∃ a c, v = .slice a n c := by
 rcases h.2 with ⟨rfl, rfl⟩ | ⟨g, cap, cur, rfl, _⟩
 . exact ⟨_, _, rfl⟩
 . exact ⟨_, _, rfl⟩
theorem owns_sl {k : IntKind} {e : TypeId} {w : World} {base : Nat} {v : Value} {n : Nat} {xs : List Nat} (h : w.ownsRow base e 1 v n (xs.map fun (x : Nat) => Value.int k (x : Int))) : Sl k w v xs := by
 have hn : n = xs.length := by have := h.1; simp at this; omega
 rcases h.2 with ⟨rfl, h0⟩ | ⟨g, cap, cur, hv, hg, hh, hc1, hc2, hs, ht⟩
 . obtain rfl : xs = [] := List.eq_nil_of_length_eq_zero (by omega)
   exact ⟨by simp, none, 0, rfl, by simp, .inl ⟨rfl, fun _ => rfl⟩⟩
 . have hcell := h.cells (g := g) (by rw [hv]; rfl)
   refine ⟨by omega, some ⟨g, 0, none⟩, cap, by rw [hv, hn], by omega, .inr ⟨g, 0, rfl, (Array.getElem?_eq_some_iff.1 hh).1, fun j hj => ?_⟩⟩
   have := hcell j (.int k ((limb xs j : Nat) : Int)) (by rw [limb_lt hj]; simp [hj])
   rw [Addr.add_lit] at this
   exact this
def V (f : Nat → Nat) : Nat → Nat
 | 0 => 0
 | n + 1 => V f n + f n * 1000000000 ^ n
def val (xs : List Nat) : Nat := V (limb xs) xs.length
def Lb (xs : List Nat) : Prop := ∀ i, limb xs i < 1000000000
theorem limb_out {xs : List Nat} {i : Nat} (h : xs.length ≤ i) : limb xs i = 0 := by
 unfold limb; simp [List.getElem?_eq_none h]
theorem limb_set {xs : List Nat} {k t : Nat} (h : k < xs.length) (i : Nat) : limb (xs.set k t) i = if i = k then t else limb xs i := by
 unfold limb
 simp only [List.getD_eq_getElem?_getD, List.getElem?_set]
 by_cases e : k = i
 . subst e; simp [h]
 . rw [if_neg e, if_neg (fun h => e h.symm)]
theorem V_congr {f g : Nat → Nat} {n : Nat} (h : ∀ i, i < n → f i = g i) : V f n = V g n := by
 induction n with
 | zero => rfl
 | succ n ih => simp only [V]; rw [ih (fun i hi => h i (by omega)), h n (by omega)]
theorem V_out {f : Nat → Nat} {m : Nat} (h : ∀ i, m ≤ i → f i = 0) {n : Nat} (hn : m ≤ n) : V f n = V f m := by
 induction n with
 | zero => obtain rfl : m = 0 := by omega
           rfl
 | succ n ih =>
  by_cases e : m = n + 1
  . rw [e]
  . simp only [V]; rw [ih (by omega), h n (by omega)]; omega
theorem V_lt {f : Nat → Nat} (h : ∀ i, f i < 1000000000) (n : Nat) : V f n < 1000000000 ^ n := by
 induction n with
 | zero => simp [V]
 | succ n ih =>
  simp only [V]
  have h1 : f n * 1000000000 ^ n ≤ 999999999 * 1000000000 ^ n := Nat.mul_le_mul_right _ (by have := h n; omega)
  rw [Nat.pow_succ]; omega
theorem val_eq {xs : List Nat} {n : Nat} (h : xs.length ≤ n) : V (limb xs) n = val xs := V_out (fun _ hi => limb_out hi) h
theorem val_lt {xs : List Nat} (h : Lb xs) : val xs < 1000000000 ^ xs.length := V_lt h _
end Go.Proofs.YtbfcbicbeagjkaaGreatDoor
