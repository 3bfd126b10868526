/- answers -/
import Derived.Test.YtimmjamackjkiaaDoorUDec
import Derived.Lib.SlBytesConst
namespace Go.Proofs.YtimmjamackjkiaaDoor
open Go.RowKit

theorem chars_ans : decA [195, 164] = ([228], 0, 0) := by
  have h0 : dc [195, 164] 0 = (228, 2) := by decide
  refine decA_ok (by simp) ?_
  rw [chars_step (by simp) (by rw [h0]; decide), h0, chars_end (by simp)]

/-- The two bytes, as the law lays them. -/
theorem decode_ans (w : World) (ht : Tabs w) : Calls Tryd.prog 20 #[.slice (some ⟨w.heap.size, 0, none⟩) 2 2] (w.alloc (.cells #[.int .u8 195, .int .u8 164] 5 (2, 3))) fun e w' =>
    ∃ b off cap, e = .returned (.tuple #[.slice (some ⟨b, off, none⟩) 1 cap, .int .i64 0, .int .i64 0]) ∧ w'.cell? ⟨b, off, none⟩ = some (.int .i64 228) ∧ Below w.heap.size w w' := by
  have hb := below1 w (.cells #[.int .u8 195, .int .u8 164] 5 (2, 3))
  have hsl : Sl .u8 (w.alloc (.cells #[.int .u8 195, .int .u8 164] 5 (2, 3))) (.slice (some ⟨w.heap.size, 0, none⟩) 2 2) [195, 164] :=
    ⟨by simp [maxLen], some ⟨w.heap.size, 0, none⟩, 2, rfl, by simp, .inr ⟨w.heap.size, 0, rfl, by simp, fun j hj => by
      match j, hj with
      | 0, _ => exact cell_of_row _ _ 0 _ _ (2, 3) (heap_alloc_new w _)
      | 1, _ => exact cell_of_row _ _ 1 _ _ (2, 3) (heap_alloc_new w _)⟩⟩
  refine (decode_any _ [195, 164] _ hsl (fun i => by match i with | 0 => simp [limb] | 1 => simp [limb] | i + 2 => simp [limb]) (ht.below hb (Nat.le_refl _))).mono ?_
  rintro e w1 ⟨v, rfl, hs, hb1⟩
  rw [chars_ans] at hs
  obtain ⟨hm, ao, cap, rfl, hcap, h⟩ := hs
  rcases h with ⟨h, _⟩ | ⟨b, off, rfl, hb2, hc⟩
  · simp at h
  exact ⟨b, off, cap, by rw [chars_ans]; rfl, hc 0 (by simp), hb.trans (hb1.mono hb.size)⟩

set_option maxRecDepth 100000 in
set_option maxHeartbeats 1000000 in
theorem answers_any (w : World) (ht : Tabs w) : Calls Tryd.prog 8 #[] w fun e w' => e = .returned (.bool true) ∧ Below w.heap.size w w' := by
  have HT := Lib.hid ht; clear ht
  have kc := fun (w : World) (C : Array Value) (n c : Nat) => Lib.run_convert_bytes_const (P := Tryd.prog) w 35 5 C n c Tryd.underlying35 Tryd.underlying5
  go_enter Tryd.func8, Tryd.ntmps8
  go_wp2_with fail
  refine (decode_ans w HT.out).mono ?_
  rintro e w1 ⟨b, off, cap, rfl, hc0, hb⟩
  clear kc
  go_wp2
  go_ret
  exact ⟨rfl, hb⟩
end Go.Proofs.YtimmjamackjkiaaDoor
