/- Small facts on decoding, and what a law comes to. No walk here. | utf.Encode, ref.Encode | utf.numbered | utf.Named | Strings by their bytes. No walk here. -/
import Derived.Test.YtbfcbicbeagjkaaDoorApp
import Derived.Test.YtbfcbicbeagjkaaDoorUEncMath
import Derived.Test.YtbfcbicbeagjkaaDoorShelf
import Derived.Test.YtbfcbicbeagjkaaDoorTkMath
import Derived.Laws.IdiomStrings
namespace Go.Proofs.YtbfcbicbeagjkaaDoor
open Go.RowKit

theorem Sl.cut {k : IntKind} {w : World} {b off cap n : Nat} {xs : List Nat} (h : Sl k w (.slice (some ⟨b, off, none⟩) xs.length cap) xs) (hn : n ≤ xs.length) (cap' : Nat) (hc : n ≤ cap') : Sl k w (.slice (some ⟨b, off, none⟩) n cap') (xs.take n) := by
  obtain ⟨hm, ao, c, hv, _, h⟩ := h
  simp only [Value.slice.injEq, true_and] at hv
  obtain ⟨rfl, rfl⟩ := hv
  have e : (xs.take n).length = n := by simp; omega
  refine ⟨by omega, _, _, by rw [e], by omega, ?_⟩
  rcases h with ⟨rfl, hz⟩ | ⟨b', off', he, hb, hcell⟩
  · exact .inl ⟨by simp, fun h => by cases h⟩
  · refine .inr ⟨b', off', he, hb, fun j hj => ?_⟩
    rw [hcell j (by omega)]
    simp [limb, show j < n by omega]

end Go.Proofs.YtbfcbicbeagjkaaDoor
namespace Go.Proofs.YtbfcbicbeagjkaaDoor
open Go.RowKit

/-- What Encode answers. -/
def EncPost (zs : List Int) (w : World) (e : Ending) (w' : World) : Prop :=
  ∃ v, e = .returned (.tuple #[v, .int .i64 ((encA zs).2 : Nat)]) ∧ Sl .u8 w' v (encA zs).1 ∧ Below w.heap.size w w'
theorem EncPost.mk {zs : List Int} {w w' : World} {v : Value} {bs : List Nat} {k : Nat} (h : encA zs = (bs, k)) (hs : Sl .u8 w' v bs) (hb : Below w.heap.size w w') : EncPost zs w (.returned (.tuple #[v, .int .i64 (k : Nat)])) w' := by
  refine ⟨v, by rw [h], by rw [h]; exact hs, hb⟩

end Go.Proofs.YtbfcbicbeagjkaaDoor
namespace Go.Proofs.YtbfcbicbeagjkaaDoor
open Go.RowKit Go.Lib

theorem toList_ne {s : ByteArray} (h : 1 ≤ s.size) : ¬ s.toList = [] ∧ s.toList.isEmpty = false := by
  have e : s.toList = s.data.toList := toList_data s
  rw [e]
  cases s with
  | mk d =>
    have h' : 1 ≤ d.toList.length := by rw [Array.length_toList]; exact h
    show ¬ d.toList = [] ∧ d.toList.isEmpty = false
    generalize d.toList = l at *
    cases l with
    | nil => exact absurd h' (by simp)
    | cons a l => exact ⟨by simp, rfl⟩
end Go.Proofs.YtbfcbicbeagjkaaDoor
namespace Go.Proofs.YtbfcbicbeagjkaaDoor
open Go.RowKit Go.Lib

theorem byt_mk {l : List Nat} (h : By l) : byt (mkB l) = l := by
  apply List.ext_getElem (by rw [byt_len, mkB_size])
  intro i h1 h2
  have e := mkB_get h i
  have h3 : i < (mkB l).size := by rw [mkB_size]; exact h2
  rw [byt_get h3, limb_lt h1, limb_lt h2] at e
  exact e
end Go.Proofs.YtbfcbicbeagjkaaDoor
namespace Go.Proofs.YtbfcbicbeagjkaaDoor
open Go.RowKit

theorem bt_byt (s : ByteArray) (j : Nat) : limb (byt s) j = bt s j := by
  unfold limb byt bt
  simp only [List.getD_eq_getElem?_getD, List.getElem?_map]
  cases s.data.toList[j]? <;> rfl
theorem ext_tl {s : ByteArray} : byt (s.extract 1 s.size) = (byt s).drop 1 := by
  unfold byt
  cases s with
  | mk d =>
    rw [ByteArray.extract_mk]
    simp only []
    rw [← List.map_drop]
    congr 1
    apply List.take_of_length_le
    simp [ByteArray.size]
theorem row_slS {w : World} {s : ByteArray} {cap : Nat} {e : TypeId} {fr : Nat × Nat} {W : World} (hW : W.heap[w.heap.size]? = some (.cells (bytesRow s cap) e fr)) (hc : s.size ≤ cap) (hs : s.size ≤ 1000000000000) :
    Sl .u8 W (.slice (some ⟨w.heap.size, 0, none⟩) s.size cap) (byt s) := by
  refine ⟨by rw [byt_len]; unfold maxLen; omega, some ⟨w.heap.size, 0, none⟩, cap, by rw [byt_len], by rw [byt_len]; exact hc, .inr ⟨w.heap.size, 0, rfl, (Array.getElem?_eq_some_iff.1 hW).1, fun j hj => ?_⟩⟩
  rw [byt_len] at hj
  rw [cell_of_row W w.heap.size (0 + j) _ e fr hW, Nat.zero_add, bytesRow_at s cap j hj, byt_limb hj]
theorem lit_iff {s : ByteArray} {l : List UInt8} : (s.toList == l) = decide (byt s = l.map UInt8.toNat) := by
  have ha : s.toList = s.data.toList := Lib.toList_data s
  rw [Bool.eq_iff_iff]
  simp only [beq_iff_eq, decide_eq_true_iff]
  unfold byt
  rw [ha]
  constructor
  · intro h; rw [h]
  · intro h; exact List.map_inj_right (fun a b h => UInt8.toNat_inj.1 h) |>.1 h
end Go.Proofs.YtbfcbicbeagjkaaDoor
