/- The six tables of print's laws, laid: what the rows' list gives, and a world that meets it. -/
import Derived.Test.YtpahfhjgcflifaaDoorULaid
import Derived.Test.YtpahfhjgcflifaaDoorPr
import Derived.Lib.LaidTab
namespace Go.Proofs.YtpahfhjgcflifaaDoor
open Go.ChangeShapes Go.WideShapes Go.ChangeAt Go.RowKit

theorem tPow10P : (Tryd.prog.globals[4]?).map (·.type) = some 172 := by kernel_rfl
theorem cellsTabP : Tryd.prog.cellsOf 172 = 20 := by kernel_rfl
theorem cellsU64P : Tryd.prog.cellsOf 117 = 1 := by kernel_rfl
theorem nBruP : Tryd.prog.globalNamed "math/bits.deBruijn64tab" = some 6 := by kernel_rfl
theorem tBruP : (Tryd.prog.globals[6]?).map (·.type) = some 189 := by kernel_rfl
theorem cells64P : Tryd.prog.cellsOf 189 = 64 := by kernel_rfl
def bruTab : List Int := [0, 1, 56, 2, 57, 49, 28, 3, 61, 58, 42, 50, 38, 29, 17, 4, 62, 47, 59, 36, 45, 43, 51, 22, 53, 39, 33, 30, 24, 18, 12, 5, 63, 55, 48, 27, 60, 41, 37, 16, 46, 35, 44, 21, 52, 32, 23, 11, 54, 26, 40, 15, 34, 20, 31, 10, 25, 14, 19, 9, 13, 8, 7, 6]
def bru32Tab : List Int := [0, 1, 28, 2, 29, 14, 24, 3, 30, 22, 20, 15, 25, 17, 4, 8, 31, 27, 13, 23, 21, 19, 16, 7, 26, 12, 18, 6, 11, 5, 10, 9]

theorem pow10_of_reads {W : World} (h : Lib.VarReads Tryd.prog W "internal/strconv.uint64pow10" Rows.laid_internal_strconv_uint64pow10) : Pow10 W := by
  obtain ⟨g2, t2, cs2, f2, p2, hg2, ht2, hv2, hd2⟩ := h
  obtain rfl := Option.some.inj (gPow10.symm.trans hg2)
  obtain rfl := Option.some.inj (tPow10P.symm.trans ht2)
  unfold Pow10 Lib.TabIs
  have e : (Rows.laid_internal_strconv_uint64pow10 : DataW Unit) = Lib.tabData .u64 Lib.pow10Tab := rfl
  rw [e] at hd2
  rw [hv2, ← Lib.cells_of_tab Tryd.underlying172 Tryd.underlying117 cellsU64P cellsTabP hd2]
theorem bru_of_reads {W : World} (h : Lib.VarReads Tryd.prog W "math/bits.deBruijn64tab" Rows.laid_math_bits_deBruijn64tab) : Bruijn W := by
  obtain ⟨g, t, cs, fuel, p, hg, hty, hvar, hd⟩ := h
  obtain rfl := Option.some.inj (nBruP.symm.trans hg)
  obtain rfl := Option.some.inj (tBruP.symm.trans hty)
  have e : (Rows.laid_math_bits_deBruijn64tab : DataW Unit) = Lib.tabData .u8 bruTab := rfl
  rw [e] at hd
  have hcs := Lib.cells_of_tab Tryd.underlying189 Tryd.underlying5 cellsU8 cells64P hd
  unfold Bruijn
  have := World.var?_cell hg hvar 15
  rw [this, ← Array.getElem?_toList, hcs]
  rfl

/-- The six tables, as the rows list them. -/
def laidP : List (String × DataW Unit) := [("math/bits.deBruijn32tab", Rows.laid_math_bits_deBruijn32tab), ("math/bits.deBruijn64tab", Rows.laid_math_bits_deBruijn64tab), ("internal/strconv.uint64pow10", Rows.laid_internal_strconv_uint64pow10), ("unicode/utf8.acceptRanges", Rows.laid_unicode_utf8_acceptRanges), ("marginalia/utf.words", Rows.laid_marginalia_utf_words), ("unicode/utf8.first", Rows.laid_unicode_utf8_first)]
theorem prT_of_laidP {W : World} (h : laidMetH Tryd.prog laidP W) : PrT W := by
  rw [MakeChecks.laidMetH_plain _ _ _ (by kernel_rfl)] at h
  refine ⟨tabs_of_reads ?_ ?_, words_of_reads (Lib.laidMet.reads h (by simp [laidP])), pow10_of_reads (Lib.laidMet.reads h (by simp [laidP])), bru_of_reads (Lib.laidMet.reads h (by simp [laidP]))⟩
  · rw [← first_eq]
    exact Lib.laidMet.reads h (by simp [laidP])
  · rw [← accept_eq]
    exact Lib.laidMet.reads h (by simp [laidP])
noncomputable def laidWorldP (os : Os) : World :=
  let N := (World.settled Tryd.prog os).heap.size
  let w0 := World.holding Tryd.prog os ⟨#[.cells wordCells 141], #[], []⟩
  let put (h : Array Obj) (g : Nat) (cs : Array Value) : Array Obj := h.modify g fun
    | .cells _ t frozen => .cells cs t frozen
    | o => o
  let h1 := put w0.heap 0 (Lib.firstTab.map fun z => Value.int .u8 z).toArray
  let h2 := put h1 1 ((List.range 16).flatMap fun i => [Value.int .u8 (Lib.accLo i), Value.int .u8 (Lib.accHi i)]).toArray
  let h3 := put h2 3 #[.slice (some ⟨N, 0, none⟩) 6 6]
  let h4 := put h3 6 (bruTab.map fun z => Value.int .u8 z).toArray
  let h5 := put h4 5 (bru32Tab.map fun z => Value.int .u8 z).toArray
  let h6 := put h5 4 (Lib.pow10Tab.map fun z => Value.int .u64 z).toArray
  { w0 with heap := h6 }
theorem laid_metP (os : Os) (args : Array Value) : laidMet Tryd.prog laidP ((laidWorldP os).forCall (fun _ _ => 0) ⟨#[], args, []⟩).memory :=
  laidMet_of_run' 8 (by kernel_rfl) (by kernel_rfl)
end Go.Proofs.YtpahfhjgcflifaaDoor
