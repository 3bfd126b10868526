/- The eight tables of PrintBack, laid: what the rows' list gives, and a world that meets it. -/
import Derived.Test.YtpahfhjgcflifaaGreatDoorULaid
import Derived.Test.YtpahfhjgcflifaaGreatDoorPr
import Derived.Lib.LaidTab
namespace Go.Proofs.YtpahfhjgcflifaaGreatDoor
open Go.ChangeShapes Go.WideShapes Go.ChangeAt Go.RowKit

theorem tPow10P : (Tryz.prog.globals[4]?).map (·.type) = some 183 := by kernel_rfl
theorem cellsTabP : Tryz.prog.cellsOf 183 = 20 := by kernel_rfl
theorem cellsU64P : Tryz.prog.cellsOf 118 = 1 := by kernel_rfl
theorem nBruP : Tryz.prog.globalNamed "math/bits.deBruijn64tab" = some 6 := by kernel_rfl
theorem tBruP : (Tryz.prog.globals[6]?).map (·.type) = some 199 := by kernel_rfl
theorem cells64P : Tryz.prog.cellsOf 199 = 64 := by kernel_rfl
def bruTab : List Int := [0, 1, 56, 2, 57, 49, 28, 3, 61, 58, 42, 50, 38, 29, 17, 4, 62, 47, 59, 36, 45, 43, 51, 22, 53, 39, 33, 30, 24, 18, 12, 5, 63, 55, 48, 27, 60, 41, 37, 16, 46, 35, 44, 21, 52, 32, 23, 11, 54, 26, 40, 15, 34, 20, 31, 10, 25, 14, 19, 9, 13, 8, 7, 6]
def bru32Tab : List Int := [0, 1, 28, 2, 29, 14, 24, 3, 30, 22, 20, 15, 25, 17, 4, 8, 31, 27, 13, 23, 21, 19, 16, 7, 26, 12, 18, 6, 11, 5, 10, 9]

theorem pow10_of_reads {W : World} (h : Lib.VarReads Tryz.prog W "internal/strconv.uint64pow10" Rows.laid_internal_strconv_uint64pow10) : Pow10 W := by
  obtain ⟨g2, t2, cs2, f2, p2, hg2, ht2, hv2, hd2⟩ := h
  obtain rfl := Option.some.inj (gPow10.symm.trans hg2)
  obtain rfl := Option.some.inj (tPow10P.symm.trans ht2)
  unfold Pow10 Lib.TabIs
  have e : (Rows.laid_internal_strconv_uint64pow10 : DataW Unit) = Lib.tabData .u64 Lib.pow10Tab := rfl
  rw [e] at hd2
  rw [hv2, ← Lib.cells_of_tab Tryz.underlying183 Tryz.underlying118 cellsU64P cellsTabP hd2]
theorem bru_of_reads {W : World} (h : Lib.VarReads Tryz.prog W "math/bits.deBruijn64tab" Rows.laid_math_bits_deBruijn64tab) : Bruijn W := by
  obtain ⟨g, t, cs, fuel, p, hg, hty, hvar, hd⟩ := h
  obtain rfl := Option.some.inj (nBruP.symm.trans hg)
  obtain rfl := Option.some.inj (tBruP.symm.trans hty)
  have e : (Rows.laid_math_bits_deBruijn64tab : DataW Unit) = Lib.tabData .u8 bruTab := rfl
  rw [e] at hd
  have hcs := Lib.cells_of_tab Tryz.underlying199 Tryz.underlying5 cellsU8 cells64P hd
  unfold Bruijn
  have := World.var?_cell hg hvar 15
  rw [this, ← Array.getElem?_toList, hcs]
  rfl

/-- The eight tables, as the rows list them. -/
def laidB : List (String × DataW Unit) := [("math/bits.deBruijn32tab", Rows.laid_math_bits_deBruijn32tab), ("math/bits.deBruijn64tab", Rows.laid_math_bits_deBruijn64tab), ("internal/strconv.uint64pow10", Rows.laid_internal_strconv_uint64pow10), ("unicode/utf8.acceptRanges", Rows.laid_unicode_utf8_acceptRanges), ("marginalia/utf.words", Rows.laid_marginalia_utf_words), ("marginalia/token.marks", Rows.laid_marginalia_token_marks), ("unicode.CaseRanges", Rows.laid_unicode_CaseRanges), ("unicode/utf8.first", Rows.laid_unicode_utf8_first)]
theorem prT_of_laidB {W : World} (h : laidMetH Tryz.prog laidB W) : PrT W := by
  rw [MakeChecks.laidMetH_plain _ _ _ (by kernel_rfl)] at h
  refine ⟨tabs_of_reads ?_ ?_, words_of_reads (Lib.laidMet.reads h (by simp [laidB])), pow10_of_reads (Lib.laidMet.reads h (by simp [laidB])), bru_of_reads (Lib.laidMet.reads h (by simp [laidB]))⟩
  · rw [← first_eq]
    exact Lib.laidMet.reads h (by simp [laidB])
  · rw [← accept_eq]
    exact Lib.laidMet.reads h (by simp [laidB])
theorem tabs2_of_laidB {W : World} (h : laidMetH Tryz.prog laidB W) (hs : W.ShapedOpen Tryz.prog) : Tabs2 W := by
  rw [MakeChecks.laidMetH_plain _ _ _ (by kernel_rfl)] at h
  exact tabs2_of_reads (Lib.laidMet.reads h (by simp [laidB])) (Lib.laidMet.reads h (by simp [laidB])) (Lib.laidMet.reads h (by simp [laidB])) hs
theorem marks_of_laidB {W : World} (h : laidMetH Tryz.prog laidB W) : Marks W := by
  rw [MakeChecks.laidMetH_plain _ _ _ (by kernel_rfl)] at h
  exact marks_of_reads (Lib.laidMet.reads h (by simp [laidB]))
noncomputable def laidWorldB (os : Os) : World :=
  let N := (World.settled Tryz.prog os).heap.size
  let w0 := World.holding Tryz.prog os ⟨#[.cells wordCells 149, .cells Lib.caseCells5 (Tryz.lays204_ren.t 208)], #[], []⟩
  let put (h : Array Obj) (g : Nat) (cs : Array Value) : Array Obj := h.modify g fun
    | .cells _ t frozen => .cells cs t frozen
    | o => o
  let h1 := put w0.heap 0 (Lib.firstTab.map fun z => Value.int .u8 z).toArray
  let h2 := put h1 1 ((List.range 16).flatMap fun i => [Value.int .u8 (Lib.accLo i), Value.int .u8 (Lib.accHi i)]).toArray
  let h3 := put h2 3 #[.slice (some ⟨N, 0, none⟩) 6 6]
  let h4 := put h3 (Tryz.lays204_ren.g 13) #[.slice (some ⟨N + 1, 0, none⟩) 336 336]
  let h5 := put h4 2 markCells
  let h6 := put h5 6 (bruTab.map fun z => Value.int .u8 z).toArray
  let h7 := put h6 5 (bru32Tab.map fun z => Value.int .u8 z).toArray
  let h8 := put h7 4 (Lib.pow10Tab.map fun z => Value.int .u64 z).toArray
  { w0 with heap := h8 }
theorem laid_metB (os : Os) (args : Array Value) : laidMet Tryz.prog laidB ((laidWorldB os).forCall (fun _ _ => 0) ⟨#[], args, []⟩).memory := by
  show laidMet Tryz.prog ([("math/bits.deBruijn32tab", Rows.laid_math_bits_deBruijn32tab), ("math/bits.deBruijn64tab", Rows.laid_math_bits_deBruijn64tab), ("internal/strconv.uint64pow10", Rows.laid_internal_strconv_uint64pow10), ("unicode/utf8.acceptRanges", Rows.laid_unicode_utf8_acceptRanges), ("marginalia/utf.words", Rows.laid_marginalia_utf_words), ("marginalia/token.marks", Rows.laid_marginalia_token_marks)] ++ [("unicode.CaseRanges", Rows.laid_unicode_CaseRanges), ("unicode/utf8.first", Rows.laid_unicode_utf8_first)]) _
  refine laidMet_swap ?_
  rw [first_eq, accept_eq, show (Rows.laid_unicode_CaseRanges : DataW Unit) = Lib.caseData from Pinned.caseRanges_eq]
  exact laidMet_with_case (ρ := Tryz.lays204_ren) { Tryz.lays204 with } Tryz.lays204.t206 case_extra
    (l := [("math/bits.deBruijn32tab", Rows.laid_math_bits_deBruijn32tab), ("math/bits.deBruijn64tab", Rows.laid_math_bits_deBruijn64tab), ("internal/strconv.uint64pow10", Rows.laid_internal_strconv_uint64pow10), ("unicode/utf8.acceptRanges", Lib.acceptData), ("marginalia/utf.words", Rows.laid_marginalia_utf_words), ("marginalia/token.marks", Rows.laid_marginalia_token_marks), ("unicode/utf8.first", Lib.firstData)])
    10 (by kernel_rfl) (by kernel_rfl) (by kernel_rfl) ((World.settled Tryz.prog default).heap.size + 1) (Tryz.lays204_ren.t 208) (of_decide_eq_true (by kernel_rfl)) (by kernel_rfl) (by kernel_rfl) (by kernel_rfl)
end Go.Proofs.YtpahfhjgcflifaaGreatDoor
