/- The five tables of the laws that convert strings, laid: what the rows' list gives, and a world that meets it. -/
import Derived.Test.YtommakdomnaclaaDoorLaid
import Derived.Lib.LaidU8
import Derived.PinnedBridge
namespace Go.Proofs.YtommakdomnaclaaDoor
open Go.ChangeShapes Go.WideShapes Go.ChangeAt Go.RowKit

/-- The five tables, as the rows list them. -/
def laid5 : List (String × DataW Unit) := [("math/bits.deBruijn32tab", Rows.laid_math_bits_deBruijn32tab), ("math/bits.deBruijn64tab", Rows.laid_math_bits_deBruijn64tab), ("internal/strconv.uint64pow10", Rows.laid_internal_strconv_uint64pow10), ("unicode/utf8.acceptRanges", Rows.laid_unicode_utf8_acceptRanges), ("unicode/utf8.first", Rows.laid_unicode_utf8_first)]

theorem pow10_of_laid5 {W : World} (h : laidMetH Tryd.prog laid5 W) : Pow10 W := by
  rw [MakeChecks.laidMetH_plain _ _ _ (by kernel_rfl)] at h
  obtain ⟨g2, t2, cs2, f2, p2, hg2, ht2, hv2, hd2⟩ := Lib.laidMet.reads h (List.mem_cons_of_mem _ (List.mem_cons_of_mem _ List.mem_cons_self))
  obtain rfl := Option.some.inj (gPow10.symm.trans hg2)
  obtain rfl := Option.some.inj (tPow10.symm.trans ht2)
  unfold Pow10 Lib.TabIs
  have e : (Rows.laid_internal_strconv_uint64pow10 : DataW Unit) = Lib.tabData .u64 Lib.pow10Tab := rfl
  rw [e] at hd2
  rw [hv2, ← Lib.cells_of_tab Tryd.underlying106 Tryd.underlying48 cellsU64 cellsTab hd2]

/-- A WORLD FOR THE WITNESS: the settled one, the five tables holding what their initialisers lay. -/
noncomputable def laidWorld5 (os : Os) : World :=
  { laidWorld os with heap := ((laidWorld os).heap.modify 1 (fillWith (Lib.firstTab.map (Value.int .u8)))).modify 2 (fillWith ((List.range 16).flatMap fun i => [Value.int .u8 (Lib.accLo i), Value.int .u8 (Lib.accHi i)])) }
end Go.Proofs.YtommakdomnaclaaDoor
