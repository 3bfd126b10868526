/- A world for UtfNames' witness: the settled one, the four tables holding what their initialisers lay. -/
import Derived.Test.YtimmjamackjkiaaDoorULaidSw
namespace Go.Proofs.YtimmjamackjkiaaDoor
open Go.ChangeShapes Go.WideShapes Go.ChangeAt Go.RowKit

/-- The words' cells. -/
def wordCells : Array Value := #[.string ⟨#[115, 112, 97, 99, 101]⟩, .int .i64 32, .string ⟨#[110, 101, 119, 108, 105, 110, 101]⟩, .int .i64 10, .string ⟨#[116, 97, 98]⟩, .int .i64 9, .string ⟨#[114, 101, 116, 117, 114, 110]⟩, .int .i64 13, .string ⟨#[110, 117, 108, 108]⟩, .int .i64 0, .string ⟨#[100, 101, 108, 101, 116, 101]⟩, .int .i64 127]

noncomputable def laidWorldN (os : Os) : World :=
  let N := (World.settled Tryd.prog os).heap.size
  let w0 := World.holding Tryd.prog os ⟨#[.cells wordCells 32, .cells Lib.caseCells5 (Tryd.lays204_ren.t 208)], #[], []⟩
  let put (h : Array Obj) (g : Nat) (cs : Array Value) : Array Obj := h.modify g fun
    | .cells _ t frozen => .cells cs t frozen
    | o => o
  let h1 := put w0.heap 1 (Lib.firstTab.map fun z => Value.int .u8 z).toArray
  let h2 := put h1 2 ((List.range 16).flatMap fun i => [Value.int .u8 (Lib.accLo i), Value.int .u8 (Lib.accHi i)]).toArray
  let h3 := put h2 0 #[.slice (some ⟨N, 0, none⟩) 6 6]
  let h4 := put h3 (Tryd.lays204_ren.g 13) #[.slice (some ⟨N + 1, 0, none⟩) 336 336]
  { w0 with heap := h4 }

theorem laid_metN (os : Os) (args : Array Value) : laidMet Tryd.prog laid4 ((laidWorldN os).forCall (fun _ _ => 0) ⟨#[], args, []⟩).memory := by
  show laidMet Tryd.prog ([("unicode/utf8.acceptRanges", Rows.laid_unicode_utf8_acceptRanges), ("marginalia/utf.words", Rows.laid_marginalia_utf_words)] ++ [("unicode.CaseRanges", Rows.laid_unicode_CaseRanges), ("unicode/utf8.first", Rows.laid_unicode_utf8_first)]) _
  refine laidMet_swap ?_
  rw [first_eq, accept_eq, show (Rows.laid_unicode_CaseRanges : DataW Unit) = Lib.caseData from Pinned.caseRanges_eq]
  exact laidMet_with_case (ρ := Tryd.lays204_ren) { Tryd.lays204 with } Tryd.lays204.t206 case_extra
    (l := [("unicode/utf8.acceptRanges", Lib.acceptData), ("marginalia/utf.words", Rows.laid_marginalia_utf_words), ("unicode/utf8.first", Lib.firstData)])
    10 (by kernel_rfl) (by kernel_rfl) (by kernel_rfl) ((World.settled Tryd.prog default).heap.size + 1) (Tryd.lays204_ren.t 208) (of_decide_eq_true (by kernel_rfl)) (by kernel_rfl) (by kernel_rfl) (by kernel_rfl)
end Go.Proofs.YtimmjamackjkiaaDoor
