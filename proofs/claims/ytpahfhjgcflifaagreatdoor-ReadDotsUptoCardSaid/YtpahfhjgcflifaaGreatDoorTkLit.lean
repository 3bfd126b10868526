/- Strings by their bytes. No walk here. -/
import Derived.Test.YtpahfhjgcflifaaGreatDoorTkMath
import Derived.Test.YtpahfhjgcflifaaGreatDoorNumbered
import Derived.Test.YtpahfhjgcflifaaGreatDoorApp
import Derived.Laws.IdiomStrings
namespace Go.Proofs.YtpahfhjgcflifaaGreatDoor
open Go.RowKit

theorem bt_byt (s : ByteArray) (j : Nat) : limb (byt s) j = bt s j := by
  unfold limb byt bt
  simp only [List.getD_eq_getElem?_getD, List.getElem?_map]
  cases s.data.toList[j]? <;> rfl
theorem ext_tl {s : ByteArray} : byt (s.extract 1 s.size) = (byt s).drop 1 := by
  unfold byt
  cases s with
  | mk d =>
    rw [ByteArray.extract_mk]
    simp only []
    rw [← List.map_drop]
    congr 1
    apply List.take_of_length_le
    simp [ByteArray.size]
theorem row_slS {w : World} {s : ByteArray} {cap : Nat} {e : TypeId} {fr : Nat × Nat} {W : World} (hW : W.heap[w.heap.size]? = some (.cells (bytesRow s cap) e fr)) (hc : s.size ≤ cap) (hs : s.size ≤ 1000000000000) :
    Sl .u8 W (.slice (some ⟨w.heap.size, 0, none⟩) s.size cap) (byt s) := by
  refine ⟨by rw [byt_len]; unfold maxLen; omega, some ⟨w.heap.size, 0, none⟩, cap, by rw [byt_len], by rw [byt_len]; exact hc, .inr ⟨w.heap.size, 0, rfl, (Array.getElem?_eq_some_iff.1 hW).1, fun j hj => ?_⟩⟩
  rw [byt_len] at hj
  rw [cell_of_row W w.heap.size (0 + j) _ e fr hW, Nat.zero_add, bytesRow_at s cap j hj, byt_limb hj]
theorem lit_iff {s : ByteArray} {l : List UInt8} : (s.toList == l) = decide (byt s = l.map UInt8.toNat) := by
  have ha : s.toList = s.data.toList := Lib.toList_data s
  rw [Bool.eq_iff_iff]
  simp only [beq_iff_eq, decide_eq_true_iff]
  unfold byt
  rw [ha]
  constructor
  · intro h; rw [h]
  · intro h; exact List.map_inj_right (fun a b h => UInt8.toNat_inj.1 h) |>.1 h
end Go.Proofs.YtpahfhjgcflifaaGreatDoor
