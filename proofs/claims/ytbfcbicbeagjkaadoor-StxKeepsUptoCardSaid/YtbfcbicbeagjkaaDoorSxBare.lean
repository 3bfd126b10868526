/- Identifiers that are built: which they are. No walk here. | ref02.Others, ref09.bare: is an Other in a datum; the document's datum of a piece. -/
import Derived.Test.YtbfcbicbeagjkaaDoorSxJn
import Derived.Test.YtbfcbicbeagjkaaDoorSxSnd
namespace Go.Proofs.YtbfcbicbeagjkaaDoor
open Go.RowKit

theorem wjA_nilL {m s : List Int} (h : sndW m s = true) : wjA [] [] m s = (m, s, 0) := by
  rw [joinA_ok sndW_nil h]
  have e : endB [] [] = false := by decide
  rw [e, Bool.false_and]
  have e2 : marryA false [] [] m s = (m, s) := by unfold marryA cutL cutF; simp
  rw [e2]
  refine closeA_ok ?_ (sndW_snd h)
  unfold sndW at h
  rw [Bool.and_eq_true] at h
  simpa using h.1
/-- A text of one letter. -/
theorem symbA_let {c : Nat} (h : 97 ≤ c ∧ c ≤ 122) : symbA [c] = true := by
  have hlow : encL [c] = [c] := by
    have h1 : encN c = [c] := by unfold encN; rw [if_pos (by omega)]
    show encN c ++ encL [] = _
    rw [h1]; rfl
  have hch : chars [c] 0 = ([c], none) := by
    have := chars_enc [c] fun x hx => by rw [List.mem_singleton] at hx; unfold scN; omega
    rwa [hlow] at this
  have hy : symA [c] = true := by
    refine symA_yes (by simp) (by simp; omega) (by simp) (by simp [limb]; omega) ?_ (by rw [hch]) ?_
    · unfold numeA digN sgnN
      simp [limb]
      omega
    · rw [hch]
      have : ¬ (enN c = true) := by unfold enN enB; simp; omega
      simpa using this
  unfold symbA
  rw [atmA_symb (by intro i; match i with | 0 => simp [limb]; omega | i + 1 => simp [limb]) hy]
  rfl
theorem idB_leaf {t : ByteArray} {c : Nat} (ht : byt t = [c]) (hc : 97 ≤ c ∧ c ≤ 122) {a : Int} {m s : List Int} (hw : sndW m s = true) : idB (.mk 4 t false [] [] a m s) = true := by
  have hs : sndD (dtm (.mk 4 t false [] [] a m s)) = true := by
    rw [dtm_mk, ht]
    unfold sndD
    rw [okD_leaf (by omega) (by omega), wrtA_sym, symbA_let hc]
    have : (Dm.mk 4 [c] false [] (List.map dtm []) a).sz = 1 := by rw [Dm.sz_eq]; rfl
    rw [this]
    rfl
  have ho : othB (dtm (.mk 4 t false [] [] a m s)) = false := by
    rw [dtm_mk]
    exact othB_no (by decide) fun j h => by simp at h
  have hj : jnsB [] [] (.mk 4 t false [] [] a m s) = true := by
    rw [jnsB_mk, innA_eq sndW_nil, wjA_nilL hw]
    rfl
  unfold idB sndX
  rw [hs, ho, hj]
  rfl
def aB : ByteArray := ⟨#[97]⟩
theorem aB_byt : byt aB = [97] := by decide
end Go.Proofs.YtbfcbicbeagjkaaDoor
namespace Go.Proofs.YtbfcbicbeagjkaaDoor
open Go.RowKit

theorem newsp3d {w : World} {a b c : Obj} : (((w.alloc a).alloc b).alloc c).heap[w.heap.size]? = some a ∧ (((w.alloc a).alloc b).alloc c).heap[w.heap.size + 1]? = some b ∧ (((w.alloc a).alloc b).alloc c).heap[w.heap.size + 2]? = some c := by
  refine ⟨?_, ?_, ?_⟩
  · rw [Below.heap_alloc _ _ _ (by simp; omega), Below.heap_alloc _ _ _ (by simp)]; exact heap_alloc_new w _
  · rw [Below.heap_alloc _ _ _ (by simp)]
    have := heap_alloc_new (w.alloc a) b
    simpa using this
  · have := heap_alloc_new ((w.alloc a).alloc b) c
    simpa using this
end Go.Proofs.YtbfcbicbeagjkaaDoor
