/- A store, made and set: New, Set. -/
import Derived.Test.YtocladhggcaokaaGreatDoorStMake
namespace Go.Proofs.YtocladhggcaokaaGreatDoor
open Go.RowKit

/-- A store in which nothing is. -/
def St.new (L : Nat) : St := ⟨L, 0, [], []⟩
def Rnew (g : Nat) : Nat → Nat := fun b => if b = g then 1 else 0
theorem Rnew_ne {g b : Nat} (h : Rnew g b ≠ 0) : b = g := by unfold Rnew at h; split at h; assumption; exact absurd rfl h
theorem stw_new (w : World) (L : Nat) (hL : L ≤ 1048576) : StW (w.alloc (.cells #[.int .i64 (L : Nat), .int .i64 0, .slice none 0 0, .slice none 0 0, .map none] 110)) w.heap.size (Rnew w.heap.size) (St.new L) := by
  refine ⟨[], .slice none 0 0, .slice none 0 0, .map none, ⟨⟨Nat.zero_le _, hL, rfl, fun o h => (by cases h), fun o h => (by cases h), List.nodup_nil, Nat.zero_le _⟩, rfl, fun b hb => ?_, ?_, heap_alloc_new w _, World.ownsRow_nil _ _ _ _, fun b hb => (by cases hb), fun i hi => (by simp at hi), fun i hi => (by simp at hi), fun i hi => (by simp at hi), World.ownsRow_nil _ _ _ _, fun b hb => (by cases hb), .inl ⟨rfl, rfl⟩⟩⟩
  · have := Rnew_ne hb; subst this; simp
  · unfold Rnew; simp

set_option maxRecDepth 100000 in
theorem stnew_any (L : Nat) (w : World) (hL : L ≤ 1048576) : Calls Tryz.prog 46 #[.int .i64 (L : Nat)] w fun e w' => e = .returned (.tuple #[.pointer (some ⟨w.heap.size, 0, none⟩), .int .i64 0]) ∧ StW w' w.heap.size (Rnew w.heap.size) (St.new L) ∧ Below w.heap.size w w' ∧ w'.heap.size = w.heap.size + 1 := by
  have HW := Lib.hid (stw_new w L hL)
  have HB := Lib.hid (below1 w (.cells #[.int .i64 (L : Nat), .int .i64 0, .slice none 0 0, .slice none 0 0, .map none] 110))
  have h1 : ¬ (1048576 : Int) < ((L : Nat) : Int) := by omega
  have h0 : ¬ ((L : Nat) : Int) < 0 := by omega
  go_enter Tryz.func46, Tryz.ntmps46
  go_wp2_with fail
  go_ret2
  exact ⟨rfl, HW.out, HB.out, by simp⟩
set_option maxRecDepth 100000 in
theorem stnew_err (c : Int) (w : World) (hc : c < 0 ∨ 1048576 < c) : Calls Tryz.prog 46 #[.int .i64 c] w fun e w' => e = .returned (.tuple #[.pointer none, .int .i64 1]) ∧ w = w' := by
  rcases hc with hc | hc
  · go_enter Tryz.func46, Tryz.ntmps46
    go_wp2_with fail
    go_ret2
    exact ⟨rfl, rfl⟩
  · have h0 : ¬ c < 0 := by omega
    go_enter Tryz.func46, Tryz.ntmps46
    go_wp2_with fail
    go_ret2
    exact ⟨rfl, rfl⟩

theorem StP.of_below {w w' : World} {g : Nat} {R : Nat → Nat} {s : St} (h : StW w g R s) (hb : Below w.heap.size w w') : StP w g R s w' := ⟨R, h.below hb, Fr.of_below hb, fun _ _ => Iff.rfl⟩
theorem StP.after {w w1 w2 : World} {g : Nat} {R : Nat → Nat} {s : St} (hb : Below w.heap.size w w1) (h : StP w1 g R s w2) : StP w g R s w2 := by
  obtain ⟨R', h1, h2, h3⟩ := h
  exact ⟨R', h1, (Fr.of_below (R := R) hb).tr h2, fun b hb' => h3 b (Nat.lt_of_lt_of_le hb' hb.size)⟩
/-- Something new, and not the store's, is written behind. -/
theorem StP.set {w w' : World} {g : Nat} {R : Nat → Nat} {s : St} (h : ∃ R', StW w' g R' s ∧ Fr R w w' ∧ (∀ b, b < w.heap.size → (R' b = 0 ↔ R b = 0)) ∧ ∀ b, w.heap.size ≤ b → R' b = 0) {p : Addr} (hp : w.heap.size ≤ p.block) (u : Value) :
    ∃ R', StW (w'.setCell p u) g R' s ∧ Fr R w (w'.setCell p u) ∧ (∀ b, b < w.heap.size → (R' b = 0 ↔ R b = 0)) ∧ ∀ b, w.heap.size ≤ b → R' b = 0 := by
  obtain ⟨R', h1, h2, h3, h4⟩ := h
  exact ⟨R', h1.keep ((Keeps.refl (fun b => R' b ≠ 0) _).set (fun h => h (h4 _ hp)) u), h2.set (.inl hp) u, h3, h4⟩

theorem setA_err {s : St} {v : Int × Int} {i : Int} {x : Int × Int} {c : Int} (h : (s.get v i).2 = c) (hc : c ≠ 0) : s.setA v i x = (c, s) := by unfold St.setA; rw [if_pos (by rw [h]; exact hc), h]

end Go.Proofs.YtocladhggcaokaaGreatDoor
