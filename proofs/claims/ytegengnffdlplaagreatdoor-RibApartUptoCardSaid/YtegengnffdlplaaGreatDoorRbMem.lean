/- Ribs in memory: New, Rib, Fresh, has; atomic counters. -/
import Derived.Test.YtegengnffdlplaaGreatDoorRbMath
import Derived.Test.YtegengnffdlplaaGreatDoorTkSc
import Derived.Laws.LoneSync
namespace Go.Proofs.YtegengnffdlplaaGreatDoor
open Go.RowKit

theorem wrap_small {z : Int} (h : 0 ≤ z ∧ z ≤ 1000000000001) : IntKind.i64.wrap z = z := by
  have e : z % 2 ^ 64 = z := by omega
  simp only [IntKind.wrap, IntKind.signed, IntKind.bits, e]
  rw [if_neg (by simp; omega)]
theorem add64 (w : World) (g o : Nat) (x : Int) (hx : 0 ≤ x ∧ x ≤ 1000000000000) (c : w.cell? ⟨g, o, none⟩ = some (.int .i64 x)) (z : w.frozen? ⟨g, o, none⟩ = false) :
    (callFunc 42 #[.pointer (some ⟨g, o, none⟩), .int .i64 1]).run Tryz.prog w = .ok (.value (.int .i64 (x + 1))) (w.setCell ⟨g, o, none⟩ (.int .i64 (x + 1))) :=
  run_call_add Tryz.func42 (by kernel_rfl) (by kernel_rfl) (by kernel_rfl) .i64 (by kernel_rfl) c z (by go_simp; show IntKind.i64.wrap (x + 1) = x + 1; exact wrap_small (by omega))
theorem load64 (w : World) (g o : Nat) (x : Int) (c : w.cell? ⟨g, o, none⟩ = some (.int .i64 x)) :
    (callFunc 44 #[.pointer (some ⟨g, o, none⟩)]).run Tryz.prog w = .ok (.value (.int .i64 x)) w :=
  run_call_load Tryz.func44 (by kernel_rfl) (by kernel_rfl) (by kernel_rfl) .i64 (by kernel_rfl) c
set_option maxRecDepth 100000 in
theorem aadd_any (w : World) (g o : Nat) (x : Int) (hx : 0 ≤ x ∧ x ≤ 1000000000000) (c : w.cell? ⟨g, o, none⟩ = some (.int .i64 x)) (z : w.frozen? ⟨g, o, none⟩ = false) :
    Calls Tryz.prog 29 #[.pointer (some ⟨g, o, none⟩), .int .i64 1] w fun e w' => e = .returned (.int .i64 (x + 1)) ∧ w.setCell ⟨g, o, none⟩ (.int .i64 (x + 1)) = w' := by
  have hd := add64 w g o x hx c z
  clear c z
  go_enter Tryz.func29, Tryz.ntmps29
  go_wp2_with fail
  go_ret
  exact ⟨rfl, rfl⟩
set_option maxRecDepth 100000 in
theorem aload_any (w : World) (g o : Nat) (x : Int) (c : w.cell? ⟨g, o, none⟩ = some (.int .i64 x)) :
    Calls Tryz.prog 31 #[.pointer (some ⟨g, o, none⟩)] w fun e w' => e = .returned (.int .i64 x) ∧ w = w' := by
  have hd := load64 w g o x c
  clear c
  go_enter Tryz.func31, Tryz.ntmps31
  go_wp2_with fail
  go_ret
  exact ⟨rfl, rfl⟩
/-- Ribs in block g: how many there are, the last number given, and what stands in them. -/
structure RbW (w : World) (g : Nat) (ob : Option Nat) (R G : Nat) (tk : Ek → Option Int) : Prop where
  box : w.heap[g]? = some (.cells #[.int .i64 (R : Nat), .int .i64 (G : Nat), .map ob] 62 (0, 0))
  non : ob = none → ∀ p, tk p = none
  map : ∀ b, ob = some b → b ≠ g ∧ MapE w b tk
theorem RbW.lt {w : World} {g : Nat} {ob : Option Nat} {R G : Nat} {tk : Ek → Option Int} (h : RbW w g ob R G tk) : g < w.heap.size := (Array.getElem?_eq_some_iff.1 h.box).1
theorem RbW.mlt {w : World} {g : Nat} {ob : Option Nat} {R G : Nat} {tk : Ek → Option Int} (h : RbW w g ob R G tk) {b : Nat} (hb : ob = some b) : b < w.heap.size := by
  obtain ⟨es, c, h1, _⟩ := (h.map b hb).2
  exact (Array.getElem?_eq_some_iff.1 h1).1
theorem RbW.keep {w w' : World} {g : Nat} {ob : Option Nat} {R G : Nat} {tk : Ek → Option Int} (h : RbW w g ob R G tk) {P : Nat → Prop} (hk : Keeps P w w') (hg : P g) (hm : ∀ b, ob = some b → P b) : RbW w' g ob R G tk :=
  ⟨(hk.2 g h.lt hg).trans h.box, h.non, fun b hb => ⟨(h.map b hb).1, (h.map b hb).2.move (hk.2 b (h.mlt hb) (hm b hb))⟩⟩
theorem RbW.below {w w' : World} {g : Nat} {ob : Option Nat} {R G : Nat} {tk : Ek → Option Int} (h : RbW w g ob R G tk) (hb : Below w.heap.size w w') : RbW w' g ob R G tk := h.keep (Keeps.of_below (P := fun _ => True) hb) trivial fun _ _ => trivial
theorem RbW.set0 {w : World} {g : Nat} {ob : Option Nat} {R G : Nat} {tk : Ek → Option Int} (h : RbW w g ob R G tk) (R' : Nat) {u : Int} (hu : u = (R' : Nat)) : RbW (w.setCell ⟨g, 0, none⟩ (.int .i64 u)) g ob R' G tk := by
  subst hu
  exact ⟨(rowSet h.box 0 _).trans (by simp), h.non, fun b hb => ⟨(h.map b hb).1, (h.map b hb).2.move (Below.heap_setCell _ _ _ _ (h.map b hb).1)⟩⟩
theorem RbW.set1 {w : World} {g : Nat} {ob : Option Nat} {R G : Nat} {tk : Ek → Option Int} (h : RbW w g ob R G tk) (G' : Nat) {u : Int} (hu : u = (G' : Nat)) : RbW (w.setCell ⟨g, 1, none⟩ (.int .i64 u)) g ob R G' tk := by
  subst hu
  exact ⟨(rowSet h.box 1 _).trans (by simp), h.non, fun b hb => ⟨(h.map b hb).1, (h.map b hb).2.move (Below.heap_setCell _ _ _ _ (h.map b hb).1)⟩⟩
/-- Nothing has changed but these ribs. -/
structure RK (g : Nat) (ob : Option Nat) (w w' : World) : Prop where
  kee : Keeps (fun b => b ≠ g ∧ ob ≠ some b) w w'
  bel : ∀ B, B ≤ g → (∀ b, ob = some b → B ≤ b) → B ≤ w.heap.size → Below B w w'
theorem RK.of_below {g : Nat} {ob : Option Nat} {w w' : World} (h : Below w.heap.size w w') : RK g ob w w' := ⟨Keeps.of_below h, fun _ _ _ h3 => h.mono h3⟩
theorem RK.size {g : Nat} {ob : Option Nat} {w w' : World} (h : RK g ob w w') : w.heap.size ≤ w'.heap.size := h.kee.1
theorem RK.trans {g : Nat} {ob ob' : Option Nat} {w w' w'' : World} (h : RK g ob w w') (h' : RK g ob' w' w'') (ho : ∀ b, ob' = some b → ob = some b ∨ w.heap.size ≤ b) : RK g ob w w'' :=
  ⟨⟨Nat.le_trans h.kee.1 h'.kee.1, fun b hb hp => (h'.kee.2 b (Nat.lt_of_lt_of_le hb h.kee.1) ⟨hp.1, fun e => by rcases ho b e with h1 | h1; exact hp.2 h1; omega⟩).trans (h.kee.2 b hb hp)⟩,
   fun B h1 h2 h3 => (h.bel B h1 h2 h3).trans (h'.bel B h1 (fun b hb => by rcases ho b hb with h4 | h4; exact h2 b h4; omega) (Nat.le_trans h3 h.kee.1))⟩
theorem RK.set {g : Nat} {ob : Option Nat} (w : World) (o : Nat) (u : Value) : RK g ob w (w.setCell ⟨g, o, none⟩ u) := ⟨(Keeps.refl _ w).set (by simp) u, fun B h1 _ _ => (Below.refl B w).setCell (p := ⟨g, o, none⟩) h1 u⟩

set_option maxRecDepth 100000 in
theorem new_any (w : World) : Calls Tryz.prog 17 #[] w fun e w' => e = .returned (.pointer (some ⟨w.heap.size, 0, none⟩)) ∧ RbW w' w.heap.size none 0 0 (fun _ => none) ∧ Below w.heap.size w w' := by
  have hn := heap_alloc_new w (.cells #[.int .i64 0, .int .i64 0, .map none] 62)
  have hb := below1 w (.cells #[.int .i64 0, .int .i64 0, .map none] 62)
  go_enter Tryz.func17, Tryz.ntmps17
  go_wp2_with fail
  go_ret
  exact ⟨rfl, ⟨hn, fun _ _ => rfl, fun b h => by cases h⟩, hb⟩
set_option maxRecDepth 100000 in
theorem rrib_any (w : World) (g : Nat) (ob : Option Nat) (R G : Nat) (tk : Ek → Option Int) (h : RbW w g ob R G tk) (hR : R ≤ 1000000) :
    Calls Tryz.prog 19 #[.pointer (some ⟨g, 0, none⟩)] w fun e w' => e = .returned (.int .i64 ((R + 1 : Nat) : Int)) ∧ RbW w' g ob (R + 1) G tk ∧ RK g ob w w' := by
  have H := Lib.hid h
  have HC := Lib.hid (aadd_any w g 0 (R : Nat) (by omega) (cell_heap h.box 0) (frozen_heap h.box 0))
  clear h
  go_enter Tryz.func19, Tryz.ntmps19
  go_wp2_with fail
  refine HC.out.mono ?_
  rintro e w' ⟨rfl, rfl⟩
  go_wp2_with fail
  go_ret
  exact ⟨rfl, H.out.set0 (R + 1) (by omega), RK.set _ _ _⟩
set_option maxRecDepth 100000 in
theorem has_any (w : World) (g : Nat) (ob : Option Nat) (R G : Nat) (tk : Ek → Option Int) (h : RbW w g ob R G tk) (b : Int) :
    Calls Tryz.prog 33 #[.pointer (some ⟨g, 0, none⟩), .int .i64 b] w fun e w' => e = .returned (.bool (decide (1 ≤ b ∧ b ≤ (R : Nat)))) ∧ w = w' := by
  have HC := Lib.hid (aload_any w g 0 (R : Nat) (cell_heap h.box 0))
  clear h
  by_cases h1 : 1 ≤ b
  · have hd : decide ((1 : Int) ≤ b) = true := by simpa using h1
    have H1 := Lib.hid h1
    clear h1
    go_enter Tryz.func33, Tryz.ntmps33
    go_wp2_with fail
    refine HC.out.mono ?_
    rintro e w' ⟨rfl, rfl⟩
    go_wp2_with fail
    go_ret
    exact ⟨ret_bl (by simp [H1.out]), rfl⟩
  · have hd : decide ((1 : Int) ≤ b) = false := by simpa using h1
    have H1 := Lib.hid h1
    clear h1
    go_enter Tryz.func33, Tryz.ntmps33
    go_wp2_with fail
    go_ret
    exact ⟨ret_bl (by simp [H1.out]), rfl⟩
end Go.Proofs.YtegengnffdlplaaGreatDoor
