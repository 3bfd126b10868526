/- law11's id; ints laid anew; what seven bindings say. -/
import Derived.Test.YtegengnffdlplaaDoorRbFnd
namespace Go.Proofs.YtegengnffdlplaaDoor
open Go.RowKit

/-- Ints laid in a new block. -/
theorem iz_new (w : World) (zs : List Int) (hl : zs.length ≤ 1000) : Iz (w.alloc (.cells (ic zs).toArray 3)) (.slice (some ⟨w.heap.size, 0, none⟩) zs.length zs.length) zs :=
  Iz.mk rfl (by unfold maxLen; omega) (Nat.le_refl _) (by simp) fun j hj => by
    rw [cell_of_row _ w.heap.size (0 + j) _ _ (0, 0) (heap_alloc_new w _), Nat.zero_add]
    simpa using ic_at hj

set_option maxRecDepth 100000 in
/-- law11's id. -/
theorem idl_any (t : ByteArray) (mo : Option Addr) (mn mc : Nat) (so : Option Addr) (sn sc : Nat) (w : World) :
    Calls Tryd.prog 9 #[.string t, .slice mo mn mc, .slice so sn sc] w fun e w' => e = .returned (.agg #[.int .i64 4, .string t, .bool false, .slice none 0 0, .slice none 0 0, .int .i64 0, .slice mo mn mc, .slice so sn sc]) ∧ Below w.heap.size w w' := by
  have hn := heap_alloc_new w (.cells #[.int .i64 4, .string t, .bool false, .slice none 0 0, .slice none 0 0, .int .i64 0, .slice mo mn mc, .slice so sn sc] 35)
  have HB := Lib.hid (below1 w (.cells #[.int .i64 4, .string t, .bool false, .slice none 0 0, .slice none 0 0, .int .i64 0, .slice mo mn mc, .slice so sn sc] 35))
  obtain ⟨g0, g1, g2, g3, g4, g5, g6, g7⟩ := rowS8 hn
  clear hn
  go_enter Tryd.func9, Tryd.ntmps9
  go_wp2_with fail
  refine bodyPost_ret (v := .agg #[.int .i64 4, .string t, .bool false, .slice none 0 0, .slice none 0 0, .int .i64 0, .slice mo mn mc, .slice so sn sc]) (by simp [results, Tryd.results9, go_sem, g0, g1, g2, g3, g4, g5, g6, g7]) rfl ?_
  exact ⟨rfl, HB.out⟩
theorem fndB_is {tk : Ek → Option Int} {t : ByteArray} {m s : List Int} (h : idB (.mk 4 t false [] [] 0 m s) = true) : fndB tk (.mk 4 t false [] [] 0 m s) = fndL (atE tk t) s m := by
  unfold fndB; rw [h, if_pos rfl]; rfl
theorem fndE_is {D : Sx} (h : idB D = true) : fndE D = 0 := by unfold fndE; rw [h]; rfl
theorem mayP_is {R : Nat} {b c : Int} {D : Sx} (h : idB D = true) (hb : 1 ≤ b ∧ b ≤ (R : Nat)) (hc : 1 ≤ c) : mayP R b D c = true := by
  unfold mayP
  rw [h, decide_eq_true hb, decide_eq_true hc]; rfl
theorem atE_none (t : ByteArray) (b : Int) (m : List Int) : atE (fun _ => none) t b m = 0 := rfl
end Go.Proofs.YtegengnffdlplaaDoor
