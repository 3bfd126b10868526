/- The five tables of token's laws, laid: what the rows' list gives, and a world that meets it. -/
import Derived.Test.YtkocmjmmflphnaaGreatDoorULaid
import Derived.Test.YtkocmjmmflphnaaGreatDoorTkEnc
import Derived.Deep.Strs
namespace Go.Proofs.YtkocmjmmflphnaaGreatDoor
open Go.ChangeShapes Go.WideShapes Go.ChangeAt Go.RowKit

/-- The five tables, as the rows list them. -/
def laidT : List (String × DataW Unit) := [("unicode/utf8.acceptRanges", Rows.laid_unicode_utf8_acceptRanges), ("marginalia/utf.words", Rows.laid_marginalia_utf_words), ("marginalia/token.marks", Rows.laid_marginalia_token_marks), ("unicode.CaseRanges", Rows.laid_unicode_CaseRanges), ("unicode/utf8.first", Rows.laid_unicode_utf8_first)]

theorem nMarks : Tryz.prog.globalNamed "marginalia/token.marks" = some 0 := by kernel_rfl
theorem tMarks : (Tryz.prog.globals[0]?).map (·.type) = some 79 := by kernel_rfl
theorem cellsMark : Tryz.prog.cellsOf 78 = 3 := by kernel_rfl
/-- One mark's datum. -/
def markData (k : Nat) : DataW Unit := .agg [.lit (.string ((mText k).map fun x => x.toUInt8)), .lit (.int .i64 ((mKind k : Nat) : Int)), .lit (.string ((mName k).map fun x => x.toUInt8))]
theorem marks_eq : (Rows.laid_marginalia_token_marks : DataW Unit) = .agg ((List.range 12).map markData) := by kernel_rfl
theorem mark_cells {w : World} {fuel : Nat} {cs : List Value} {k : Nat} {p : List MemPlace} {base : Nat} {sp : Nat → Bool} {held : Bool}
    (h : DataW.trod (fun _ => ()) Tryz.prog w base sp held fuel 78 cs = some (markData k, p)) : cs = [.string (mkB (mText k)), .int .i64 ((mKind k : Nat) : Int), .string (mkB (mName k))] := by
  obtain ⟨y0, y1, y2, n, hx, hl, h0, h1, h2⟩ := Deep.trod_struct3 Tryz.underlying78 h
  rw [cellsMark] at hl
  have hx1 := congrArg Prod.fst hx
  simp only [markData, DataW.agg.injEq, List.cons.injEq, and_true] at hx1
  obtain ⟨e0, e1, e2⟩ := hx1
  change DataW.trod _ _ _ _ _ _ _ 9 ((cs.drop 0).take (Tryz.prog.cellsOf 9)) = some y0 at h0
  change DataW.trod _ _ _ _ _ _ _ 3 ((cs.drop 1).take (Tryz.prog.cellsOf 3)) = some y1 at h1
  change DataW.trod _ _ _ _ _ _ _ 9 ((cs.drop 2).take (Tryz.prog.cellsOf 9)) = some y2 at h2
  rw [cellsStr] at h0 h2
  rw [cellsI] at h1
  obtain ⟨s, hs, rfl, _⟩ := DataW.trod_string Tryz.underlying9 h0
  obtain ⟨z, hz, rfl, _⟩ := DataW.trod_int Tryz.underlying3 h1
  obtain ⟨s2, hs2, rfl, _⟩ := DataW.trod_string Tryz.underlying9 h2
  simp only [DataW.lit.injEq, Lit.string.injEq, Lit.int.injEq, true_and] at e0 e1 e2
  have g0 := at_of_take hs
  have g1 := at_of_take hz
  have g2 := at_of_take hs2
  have hs' : s = mkB (mText k) := by
    unfold mkB
    rw [e0]
  have hs2' : s2 = mkB (mName k) := by
    unfold mkB
    rw [e2]
  subst hs' hs2' e1
  match cs, hl, g0, g1, g2 with
  | [c0, c1, c2], _, g0, g1, g2 =>
    simp at g0 g1 g2
    subst g0 g1 g2
    rfl
theorem marks_of_reads {W : World} (h : Lib.VarReads Tryz.prog W "marginalia/token.marks" Rows.laid_marginalia_token_marks) : Marks W := by
  obtain ⟨g, t, cs, fuel, p, hg, hty, hvar, hd⟩ := h
  obtain rfl := Option.some.inj (nMarks.symm.trans hg)
  obtain rfl := Option.some.inj (tMarks.symm.trans hty)
  rw [marks_eq] at hd
  intro k hk
  obtain ⟨fuel', d, q, hdi, he⟩ := Lib.array_elem Tryz.underlying79 hd k hk
  simp only [List.getElem?_map, List.getElem?_range hk, Option.map_some, Option.some.injEq] at hdi
  subst hdi
  rw [cellsMark] at he
  have hcs := mark_cells he
  have e0 := congrArg (·[0]?) hcs
  have e1 := congrArg (·[1]?) hcs
  have e2 := congrArg (·[2]?) hcs
  simp only [List.getElem?_take, List.getElem?_drop] at e0 e1 e2
  refine ⟨?_, ?_, ?_⟩
  · rw [World.var?_cell hg hvar (3 * k), ← Array.getElem?_toList]
    simpa [Nat.mul_comm] using e0
  · rw [World.var?_cell hg hvar (3 * k + 1), ← Array.getElem?_toList]
    simpa [Nat.mul_comm] using e1
  · rw [World.var?_cell hg hvar (3 * k + 2), ← Array.getElem?_toList]
    simpa [Nat.mul_comm] using e2
theorem tabs2_of_laidT {W : World} (h : laidMetH Tryz.prog laidT W) (hs : W.ShapedOpen Tryz.prog) : Tabs2 W := by
  rw [MakeChecks.laidMetH_plain _ _ _ (by kernel_rfl)] at h
  exact tabs2_of_reads (Lib.laidMet.reads h (by simp [laidT])) (Lib.laidMet.reads h (by simp [laidT])) (Lib.laidMet.reads h (by simp [laidT])) hs
theorem words_of_laidT {W : World} (h : laidMetH Tryz.prog laidT W) : Words W := by
  rw [MakeChecks.laidMetH_plain _ _ _ (by kernel_rfl)] at h
  exact words_of_reads (Lib.laidMet.reads h (List.mem_cons_of_mem _ List.mem_cons_self))
theorem marks_of_laidT {W : World} (h : laidMetH Tryz.prog laidT W) : Marks W := by
  rw [MakeChecks.laidMetH_plain _ _ _ (by kernel_rfl)] at h
  exact marks_of_reads (Lib.laidMet.reads h (List.mem_cons_of_mem _ (List.mem_cons_of_mem _ List.mem_cons_self)))

/-- The words' cells. -/
def wordCells : Array Value := #[.string ⟨#[115, 112, 97, 99, 101]⟩, .int .i64 32, .string ⟨#[110, 101, 119, 108, 105, 110, 101]⟩, .int .i64 10, .string ⟨#[116, 97, 98]⟩, .int .i64 9, .string ⟨#[114, 101, 116, 117, 114, 110]⟩, .int .i64 13, .string ⟨#[110, 117, 108, 108]⟩, .int .i64 0, .string ⟨#[100, 101, 108, 101, 116, 101]⟩, .int .i64 127]

/-- The marks' cells. -/
def markCells : Array Value := ((List.range 12).flatMap fun k => [.string (mkB (mText k)), .int .i64 ((mKind k : Nat) : Int), .string (mkB (mName k))]).toArray

noncomputable def laidWorldT (os : Os) : World :=
  let N := (World.settled Tryz.prog os).heap.size
  let w0 := World.holding Tryz.prog os ⟨#[.cells wordCells 89, .cells Lib.caseCells5 (Tryz.lays204_ren.t 208)], #[], []⟩
  let put (h : Array Obj) (g : Nat) (cs : Array Value) : Array Obj := h.modify g fun
    | .cells _ t frozen => .cells cs t frozen
    | o => o
  let h1 := put w0.heap 2 (Lib.firstTab.map fun z => Value.int .u8 z).toArray
  let h2 := put h1 3 ((List.range 16).flatMap fun i => [Value.int .u8 (Lib.accLo i), Value.int .u8 (Lib.accHi i)]).toArray
  let h3 := put h2 1 #[.slice (some ⟨N, 0, none⟩) 6 6]
  let h4 := put h3 (Tryz.lays204_ren.g 13) #[.slice (some ⟨N + 1, 0, none⟩) 336 336]
  let h5 := put h4 0 markCells
  { w0 with heap := h5 }

theorem laid_metT (os : Os) (args : Array Value) : laidMet Tryz.prog laidT ((laidWorldT os).forCall (fun _ _ => 0) ⟨#[], args, []⟩).memory := by
  show laidMet Tryz.prog ([("unicode/utf8.acceptRanges", Rows.laid_unicode_utf8_acceptRanges), ("marginalia/utf.words", Rows.laid_marginalia_utf_words), ("marginalia/token.marks", Rows.laid_marginalia_token_marks)] ++ [("unicode.CaseRanges", Rows.laid_unicode_CaseRanges), ("unicode/utf8.first", Rows.laid_unicode_utf8_first)]) _
  refine laidMet_swap ?_
  rw [first_eq, accept_eq, show (Rows.laid_unicode_CaseRanges : DataW Unit) = Lib.caseData from Pinned.caseRanges_eq]
  exact laidMet_with_case (ρ := Tryz.lays204_ren) { Tryz.lays204 with } Tryz.lays204.t206 case_extra
    (l := [("unicode/utf8.acceptRanges", Lib.acceptData), ("marginalia/utf.words", Rows.laid_marginalia_utf_words), ("marginalia/token.marks", Rows.laid_marginalia_token_marks), ("unicode/utf8.first", Lib.firstData)])
    10 (by kernel_rfl) (by kernel_rfl) (by kernel_rfl) ((World.settled Tryz.prog default).heap.size + 1) (Tryz.lays204_ren.t 208) (of_decide_eq_true (by kernel_rfl)) (by kernel_rfl) (by kernel_rfl) (by kernel_rfl)
end Go.Proofs.YtkocmjmmflphnaaGreatDoor
