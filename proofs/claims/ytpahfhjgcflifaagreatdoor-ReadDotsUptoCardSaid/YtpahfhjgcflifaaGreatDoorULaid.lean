/- The two tables of package utf8, laid: what the rows' list gives, and a world that meets it. | The four tables of UtfNames, laid: what the rows' list gives. | The list of laid variables: the order of the last two is of no matter. | The five tables of token's laws, laid: what the rows' list gives, and a world that meets it. -/
import Derived.Test.YtpahfhjgcflifaaGreatDoorCards
import Derived.Test.YtpahfhjgcflifaaGreatDoorTie
import Derived.Test.YtpahfhjgcflifaaGreatDoorUDec
import Derived.ProofKit
import Derived.OpenShut
import Derived.ChangeOld
import Derived.Deep.DeepHandedRow
import Derived.Lib.LaidU8
import Derived.Lib.SmallJoins
import Derived.PinnedBridge
import Derived.Test.YtpahfhjgcflifaaGreatDoorNumbered
import Derived.Lib.LaidCaseMet
import Derived.Test.YtpahfhjgcflifaaGreatDoorTkEnc
import Derived.Deep.Strs
namespace Go.Proofs.YtpahfhjgcflifaaGreatDoor
open Go.ChangeShapes Go.WideShapes Go.ChangeAt Go.RowKit

theorem own : ownKnob Tryz.prog.godebug = none := by kernel_rfl
theorem laidOut : laidOutB Tryz.prog = true := by kernel_rfl
theorem nFirst : Tryz.prog.globalNamed "unicode/utf8.first" = some 0 := by kernel_rfl
theorem nAccept : Tryz.prog.globalNamed "unicode/utf8.acceptRanges" = some 1 := by kernel_rfl
theorem tFirst : (Tryz.prog.globals[0]?).map (·.type) = some 132 := by kernel_rfl
theorem tAccept : (Tryz.prog.globals[1]?).map (·.type) = some 136 := by kernel_rfl
theorem cellsU8 : Tryz.prog.cellsOf 5 = 1 := by kernel_rfl
theorem cellsI : Tryz.prog.cellsOf 3 = 1 := by kernel_rfl
theorem cellsTab : Tryz.prog.cellsOf 132 = 256 := by kernel_rfl
theorem cellsAcc : Tryz.prog.cellsOf 135 = 2 := by kernel_rfl

/-- The two tables, as the rows list them. -/
def laid2 : List (String × DataW Unit) := [("unicode/utf8.acceptRanges", Rows.laid_unicode_utf8_acceptRanges), ("unicode/utf8.first", Rows.laid_unicode_utf8_first)]

theorem tabs_of_reads {w : World} (h3 : Lib.VarReads Tryz.prog w "unicode/utf8.first" Lib.firstData) (h4 : Lib.VarReads Tryz.prog w "unicode/utf8.acceptRanges" Lib.acceptData) : Tabs w := by
  refine ⟨fun c hc => ?_, fun i hi => ?_⟩
  · obtain ⟨g, t, cs, fuel, p, hg, hty, hvar, hd⟩ := h3
    obtain rfl := Option.some.inj (nFirst.symm.trans hg)
    obtain rfl := Option.some.inj (tFirst.symm.trans hty)
    have hcs := Lib.cells_of_tab Tryz.underlying132 Tryz.underlying5 cellsU8 cellsTab hd
    have := World.var?_cell hg hvar c
    rw [this, ← Array.getElem?_toList, hcs]
    simp [Lib.firstTab, hc]
  · obtain ⟨g, t, cs, fuel, p, hg, hty, hvar, hd⟩ := h4
    obtain rfl := Option.some.inj (nAccept.symm.trans hg)
    obtain rfl := Option.some.inj (tAccept.symm.trans hty)
    obtain ⟨fuel', d, q, hdi, he⟩ := Lib.array_elem Tryz.underlying136 hd i hi
    simp only [List.getElem?_map, List.getElem?_range hi, Option.map_some, Option.some.injEq] at hdi
    subst hdi
    rw [cellsAcc] at he
    have hcs := Lib.ints_of_struct Tryz.underlying135 (fun j f hj => by
      match j, hj with
      | 0, hj => simp at hj; subst hj; exact ⟨Tryz.underlying5, rfl, cellsU8⟩
      | 1, hj => simp at hj; subst hj; exact ⟨Tryz.underlying5, rfl, cellsU8⟩
      | j + 2, hj => simp at hj) (by rw [cellsAcc]; rfl) he
    have e0 := congrArg (·[0]?) hcs
    have e1 := congrArg (·[1]?) hcs
    simp only [List.getElem?_take, List.getElem?_drop] at e0 e1
    constructor
    · rw [World.var?_cell hg hvar (2 * i), ← Array.getElem?_toList]
      simpa [Nat.mul_comm] using e0
    · rw [World.var?_cell hg hvar (2 * i + 1), ← Array.getElem?_toList]
      simpa [Nat.mul_comm] using e1

theorem accept_eq : (Rows.laid_unicode_utf8_acceptRanges : DataW Unit) = Lib.acceptData := by kernel_rfl
theorem first_eq : Rows.laid_unicode_utf8_first = Lib.firstData := Pinned.utf8First_eq

theorem tabs_of_laid {W : World} (h : laidMetH Tryz.prog laid2 W) : Tabs W := by
  rw [MakeChecks.laidMetH_plain _ _ _ (by kernel_rfl)] at h
  refine tabs_of_reads ?_ ?_
  · rw [← first_eq]
    exact Lib.laidMet.reads h (by simp [laid2])
  · rw [← accept_eq]
    exact Lib.laidMet.reads h (by simp [laid2])

/-- A WORLD FOR THE WITNESS: the settled one, the tables holding what their initialisers lay. -/
def fillWith (l : List Value) : Obj → Obj
  | .cells _ t frozen => .cells l.toArray t frozen
  | o => o
noncomputable def laidWorld (os : Os) : World :=
  { World.holding Tryz.prog os ⟨#[], #[], []⟩ with heap := ((World.holding Tryz.prog os ⟨#[], #[], []⟩).heap.modify 0 (fillWith (Lib.firstTab.map (Value.int .u8)))).modify 1 (fillWith ((List.range 16).flatMap fun i => [Value.int .u8 (Lib.accLo i), Value.int .u8 (Lib.accHi i)])) }
end Go.Proofs.YtpahfhjgcflifaaGreatDoor
namespace Go.Proofs.YtpahfhjgcflifaaGreatDoor
open Go.ChangeShapes Go.WideShapes Go.ChangeAt Go.RowKit

theorem nWords : Tryz.prog.globalNamed "marginalia/utf.words" = some 3 := by kernel_rfl

/-- The four tables, as the rows list them. -/
def laid4 : List (String × DataW Unit) := [("unicode/utf8.acceptRanges", Rows.laid_unicode_utf8_acceptRanges), ("marginalia/utf.words", Rows.laid_marginalia_utf_words), ("unicode.CaseRanges", Rows.laid_unicode_CaseRanges), ("unicode/utf8.first", Rows.laid_unicode_utf8_first)]

theorem case_extra : CaseExtra Tryz.prog Tryz.lays204_ren := ⟨by kernel_rfl, by kernel_rfl, by kernel_rfl, by kernel_rfl, by kernel_rfl, by kernel_rfl⟩

theorem max_of_shape {w : World} (h : w.ShapedOpen Tryz.prog) : ∃ m, w.cell? ⟨7, 0, none⟩ = some (.int .i64 m) :=
  Go.Proofs.cell_of_shapedOpen_int (zero := #[.int .i64 0]) (t := 3) h (of_decide_eq_true (by kernel_rfl)) (by kernel_rfl) rfl (by kernel_rfl) (by kernel_rfl) Tryz.underlying3

theorem tabs2_of_reads {W : World} (h1 : Lib.VarReads Tryz.prog W "unicode/utf8.first" Rows.laid_unicode_utf8_first) (h2 : Lib.VarReads Tryz.prog W "unicode/utf8.acceptRanges" Rows.laid_unicode_utf8_acceptRanges) (h3 : Lib.VarReads Tryz.prog W "unicode.CaseRanges" Rows.laid_unicode_CaseRanges) (hs : W.ShapedOpen Tryz.prog) : Tabs2 W := by
  refine ⟨tabs_of_reads ?_ ?_, ?_, max_of_shape hs⟩
  · rw [← first_eq]; exact h1
  · rw [← accept_eq]; exact h2
  · refine caseVar_of_reads { Tryz.lays204 with } (by kernel_rfl) case_extra ?_
    rw [← Pinned.caseRanges_eq]
    exact h3
theorem tabs2_of_laid {W : World} (h : laidMetH Tryz.prog laid4 W) (hs : W.ShapedOpen Tryz.prog) : Tabs2 W := by
  rw [MakeChecks.laidMetH_plain _ _ _ (by kernel_rfl)] at h
  refine ⟨tabs_of_reads ?_ ?_, ?_, max_of_shape hs⟩
  · rw [← first_eq]
    exact Lib.laidMet.reads h (by simp [laid4])
  · rw [← accept_eq]
    exact Lib.laidMet.reads h (by simp [laid4])
  · refine caseVar_of_reads { Tryz.lays204 with } (by kernel_rfl) case_extra ?_
    rw [← Pinned.caseRanges_eq]
    exact Lib.laidMet.reads h (by simp [laid4, Rows.laid_unicode_CaseRanges])

theorem cellsWord : Tryz.prog.cellsOf 149 = 2 := by kernel_rfl
theorem cellsStr : Tryz.prog.cellsOf 9 = 1 := by kernel_rfl
theorem tWords : (Tryz.prog.globals[3]?).map (·.type) = some 147 := by kernel_rfl

/-- One word's datum. -/
def wordData (k : Nat) : DataW Unit := .agg [.lit (.string ((wName k).map fun x => x.toUInt8)), .lit (.int .i64 ((wChar k : Nat) : Int))]
theorem words_eq : (Rows.laid_marginalia_utf_words : DataW Unit) = .slice ((List.range 6).map wordData) [] := by kernel_rfl

theorem word_cells {w : World} {fuel : Nat} {cs : List Value} {k : Nat} {p : List MemPlace} {base : Nat} {sp : Nat → Bool} {held : Bool}
    (h : DataW.trod (fun _ => ()) Tryz.prog w base sp held fuel 149 cs = some (wordData k, p)) : cs = [.string (mkB (wName k)), .int .i64 ((wChar k : Nat) : Int)] := by
  obtain ⟨y0, y1, n, hx, hl, h0, h1⟩ := trod_struct2 Tryz.underlying149 h
  rw [cellsWord] at hl
  have hx1 := congrArg Prod.fst hx
  simp only [wordData, DataW.agg.injEq, List.cons.injEq, and_true] at hx1
  obtain ⟨e0, e1⟩ := hx1
  change DataW.trod _ _ _ _ _ _ _ 9 ((cs.drop 0).take (Tryz.prog.cellsOf 9)) = some y0 at h0
  change DataW.trod _ _ _ _ _ _ _ 3 ((cs.drop 1).take (Tryz.prog.cellsOf 3)) = some y1 at h1
  rw [cellsStr] at h0
  rw [cellsI] at h1
  obtain ⟨s, hs, rfl, _⟩ := DataW.trod_string Tryz.underlying9 h0
  obtain ⟨z, hz, rfl, _⟩ := DataW.trod_int Tryz.underlying3 h1
  simp only [DataW.lit.injEq, Lit.string.injEq, Lit.int.injEq, true_and] at e0 e1
  have g0 := at_of_take hs
  have g1 := at_of_take hz
  have hs' : s = mkB (wName k) := by
    unfold mkB
    rw [e0]
  subst hs' e1
  match cs, hl, g0, g1 with
  | [c0, c1], _, g0, g1 =>
    simp at g0 g1
    subst g0 g1
    rfl

theorem words_of_reads {W : World} (h : Lib.VarReads Tryz.prog W "marginalia/utf.words" Rows.laid_marginalia_utf_words) : Words W := by
  obtain ⟨g, t, cs, fuel, p, hg, hty, hvar, hd⟩ := h
  obtain rfl := Option.some.inj (nWords.symm.trans hg)
  obtain rfl := Option.some.inj (tWords.symm.trans hty)
  rw [words_eq] at hd
  rcases DataW.trod_slice Tryz.underlying147 hd with ⟨_, hx'⟩ | ⟨a', len, cap, el, rs, m, rfl, hc0, hx', _, hlc, _, hel, helem, hsp, _⟩
  · cases hx'
  have e0 := congrArg Prod.fst hx'
  simp only [DataW.slice.injEq] at e0
  obtain ⟨eE, _⟩ := e0
  obtain rfl : len = 6 := by
    have := congrArg List.length eE
    simp at this
    omega
  have hrow : ∀ i, i < 6 → ∀ j, j < 2 → W.cell? ((a'.add (i * 2)).add j) = ([.string (mkB (wName i)), .int .i64 ((wChar i : Nat) : Int)] : List Value)[j]? := by
    intro i hi j hj
    have h1 := helem i hi
    rw [cellsWord] at h1
    obtain ⟨b, hb⟩ : ∃ b, el[i]? = some b := ⟨el[i]'(by omega), List.getElem?_eq_getElem (by omega)⟩
    rw [hb] at h1
    obtain ⟨ce, hce, hte⟩ := Option.bind_eq_some_iff.1 h1
    have hb1 : b.1 = wordData i := by
      have := congrArg (·[i]?) eE
      simp only [List.getElem?_map, hb, Option.map_some, List.getElem?_range hi, Option.some.injEq] at this
      exact this.symm
    have hcs := word_cells (k := i) (p := b.2) (by rw [← hb1]; exact hte)
    obtain ⟨_, _, hcc⟩ := World.cells?_some hce
    rw [hcc j hj, hcs]
  obtain ⟨R, oR, sR⟩ := a'
  obtain rfl : sR = none := by
    have h00 := hrow 0 (by omega) 0 (by omega)
    have : (Addr.add (Addr.add ⟨R, oR, sR⟩ (0 * 2)) 0) = ⟨R, oR, sR⟩ := by simp [Addr.add]
    rw [this] at h00
    exact cell_spot h00
  refine ⟨R, oR, cap, ?_, fun k hk => ?_⟩
  · rw [World.var?_cell hg hvar 0, ← Array.getElem?_toList, hc0]
    rfl
  · have k0 := hrow k hk 0 (by omega)
    have k1 := hrow k hk 1 (by omega)
    rw [Addr.add_lit, Addr.add_lit] at k0 k1
    exact ⟨by simpa using k0, by simpa using k1⟩
theorem words_of_laid {W : World} (h : laidMetH Tryz.prog laid4 W) : Words W := by
  rw [MakeChecks.laidMetH_plain _ _ _ (by kernel_rfl)] at h
  exact words_of_reads (Lib.laidMet.reads h (List.mem_cons_of_mem _ List.mem_cons_self))
end Go.Proofs.YtpahfhjgcflifaaGreatDoor
namespace Go.Proofs.YtpahfhjgcflifaaGreatDoor
open Go.ChangeShapes Go.WideShapes Go.ChangeAt Go.RowKit

theorem laidVars_swap {P : Program} {w : World} {x y : String × DataW Unit} : ∀ {l : List (String × DataW Unit)} {ps : List MemPlace}, DataW.LaidVars P w (l ++ [x, y]) ps → ∃ qs, DataW.LaidVars P w (l ++ [y, x]) qs ∧ qs.Perm ps
  | [], ps, h => by
    obtain ⟨g, t, cs, fuel, p, q, h1, h2, h3, h4, h5, h6⟩ := h
    obtain ⟨g', t', cs', fuel', p', q', k1, k2, k3, k4, k5, k6⟩ := h5
    obtain rfl : q' = [] := k5
    refine ⟨_, ⟨g', t', cs', fuel', p', _, k1, k2, k3, k4, ⟨g, t, cs, fuel, p, [], h1, h2, h3, h4, rfl, rfl⟩, rfl⟩, ?_⟩
    subst h6 k6
    simp only [List.append_nil]
    first | exact List.perm_append_comm | skip
  | z :: l, ps, h => by
    obtain ⟨g, t, cs, fuel, p, q, h1, h2, h3, h4, h5, h6⟩ := h
    obtain ⟨qs, k, hp⟩ := laidVars_swap h5
    refine ⟨_, ⟨g, t, cs, fuel, p, qs, h1, h2, h3, h4, k, rfl⟩, ?_⟩
    subst h6
    exact List.Perm.append_left _ hp
theorem laidMet_swap {P : Program} {w : World} {x y : String × DataW Unit} {l : List (String × DataW Unit)} (h : laidMet P (l ++ [x, y]) w) : laidMet P (l ++ [y, x]) w := by
  obtain ⟨ps, hv, hn, hc⟩ := h
  obtain ⟨qs, hq, hp⟩ := laidVars_swap hv
  exact ⟨qs, hq, hp.nodup_iff.2 hn, fun b off hm => hc b off (hp.mem_iff.1 hm)⟩
end Go.Proofs.YtpahfhjgcflifaaGreatDoor
namespace Go.Proofs.YtpahfhjgcflifaaGreatDoor
open Go.ChangeShapes Go.WideShapes Go.ChangeAt Go.RowKit

/-- The five tables, as the rows list them. -/
def laidT : List (String × DataW Unit) := [("unicode/utf8.acceptRanges", Rows.laid_unicode_utf8_acceptRanges), ("marginalia/utf.words", Rows.laid_marginalia_utf_words), ("marginalia/token.marks", Rows.laid_marginalia_token_marks), ("unicode.CaseRanges", Rows.laid_unicode_CaseRanges), ("unicode/utf8.first", Rows.laid_unicode_utf8_first)]

theorem nMarks : Tryz.prog.globalNamed "marginalia/token.marks" = some 2 := by kernel_rfl
theorem tMarks : (Tryz.prog.globals[2]?).map (·.type) = some 140 := by kernel_rfl
theorem cellsMark : Tryz.prog.cellsOf 139 = 3 := by kernel_rfl
/-- One mark's datum. -/
def markData (k : Nat) : DataW Unit := .agg [.lit (.string ((mText k).map fun x => x.toUInt8)), .lit (.int .i64 ((mKind k : Nat) : Int)), .lit (.string ((mName k).map fun x => x.toUInt8))]
theorem marks_eq : (Rows.laid_marginalia_token_marks : DataW Unit) = .agg ((List.range 12).map markData) := by kernel_rfl
theorem mark_cells {w : World} {fuel : Nat} {cs : List Value} {k : Nat} {p : List MemPlace} {base : Nat} {sp : Nat → Bool} {held : Bool}
    (h : DataW.trod (fun _ => ()) Tryz.prog w base sp held fuel 139 cs = some (markData k, p)) : cs = [.string (mkB (mText k)), .int .i64 ((mKind k : Nat) : Int), .string (mkB (mName k))] := by
  obtain ⟨y0, y1, y2, n, hx, hl, h0, h1, h2⟩ := Deep.trod_struct3 Tryz.underlying139 h
  rw [cellsMark] at hl
  have hx1 := congrArg Prod.fst hx
  simp only [markData, DataW.agg.injEq, List.cons.injEq, and_true] at hx1
  obtain ⟨e0, e1, e2⟩ := hx1
  change DataW.trod _ _ _ _ _ _ _ 9 ((cs.drop 0).take (Tryz.prog.cellsOf 9)) = some y0 at h0
  change DataW.trod _ _ _ _ _ _ _ 3 ((cs.drop 1).take (Tryz.prog.cellsOf 3)) = some y1 at h1
  change DataW.trod _ _ _ _ _ _ _ 9 ((cs.drop 2).take (Tryz.prog.cellsOf 9)) = some y2 at h2
  rw [cellsStr] at h0 h2
  rw [cellsI] at h1
  obtain ⟨s, hs, rfl, _⟩ := DataW.trod_string Tryz.underlying9 h0
  obtain ⟨z, hz, rfl, _⟩ := DataW.trod_int Tryz.underlying3 h1
  obtain ⟨s2, hs2, rfl, _⟩ := DataW.trod_string Tryz.underlying9 h2
  simp only [DataW.lit.injEq, Lit.string.injEq, Lit.int.injEq, true_and] at e0 e1 e2
  have g0 := at_of_take hs
  have g1 := at_of_take hz
  have g2 := at_of_take hs2
  have hs' : s = mkB (mText k) := by
    unfold mkB
    rw [e0]
  have hs2' : s2 = mkB (mName k) := by
    unfold mkB
    rw [e2]
  subst hs' hs2' e1
  match cs, hl, g0, g1, g2 with
  | [c0, c1, c2], _, g0, g1, g2 =>
    simp at g0 g1 g2
    subst g0 g1 g2
    rfl
theorem marks_of_reads {W : World} (h : Lib.VarReads Tryz.prog W "marginalia/token.marks" Rows.laid_marginalia_token_marks) : Marks W := by
  obtain ⟨g, t, cs, fuel, p, hg, hty, hvar, hd⟩ := h
  obtain rfl := Option.some.inj (nMarks.symm.trans hg)
  obtain rfl := Option.some.inj (tMarks.symm.trans hty)
  rw [marks_eq] at hd
  intro k hk
  obtain ⟨fuel', d, q, hdi, he⟩ := Lib.array_elem Tryz.underlying140 hd k hk
  simp only [List.getElem?_map, List.getElem?_range hk, Option.map_some, Option.some.injEq] at hdi
  subst hdi
  rw [cellsMark] at he
  have hcs := mark_cells he
  have e0 := congrArg (·[0]?) hcs
  have e1 := congrArg (·[1]?) hcs
  have e2 := congrArg (·[2]?) hcs
  simp only [List.getElem?_take, List.getElem?_drop] at e0 e1 e2
  refine ⟨?_, ?_, ?_⟩
  · rw [World.var?_cell hg hvar (3 * k), ← Array.getElem?_toList]
    simpa [Nat.mul_comm] using e0
  · rw [World.var?_cell hg hvar (3 * k + 1), ← Array.getElem?_toList]
    simpa [Nat.mul_comm] using e1
  · rw [World.var?_cell hg hvar (3 * k + 2), ← Array.getElem?_toList]
    simpa [Nat.mul_comm] using e2
theorem tabs2_of_laidT {W : World} (h : laidMetH Tryz.prog laidT W) (hs : W.ShapedOpen Tryz.prog) : Tabs2 W := by
  rw [MakeChecks.laidMetH_plain _ _ _ (by kernel_rfl)] at h
  exact tabs2_of_reads (Lib.laidMet.reads h (by simp [laidT])) (Lib.laidMet.reads h (by simp [laidT])) (Lib.laidMet.reads h (by simp [laidT])) hs
theorem words_of_laidT {W : World} (h : laidMetH Tryz.prog laidT W) : Words W := by
  rw [MakeChecks.laidMetH_plain _ _ _ (by kernel_rfl)] at h
  exact words_of_reads (Lib.laidMet.reads h (List.mem_cons_of_mem _ List.mem_cons_self))
theorem marks_of_laidT {W : World} (h : laidMetH Tryz.prog laidT W) : Marks W := by
  rw [MakeChecks.laidMetH_plain _ _ _ (by kernel_rfl)] at h
  exact marks_of_reads (Lib.laidMet.reads h (List.mem_cons_of_mem _ (List.mem_cons_of_mem _ List.mem_cons_self)))

/-- The words' cells. -/
def wordCells : Array Value := #[.string ⟨#[115, 112, 97, 99, 101]⟩, .int .i64 32, .string ⟨#[110, 101, 119, 108, 105, 110, 101]⟩, .int .i64 10, .string ⟨#[116, 97, 98]⟩, .int .i64 9, .string ⟨#[114, 101, 116, 117, 114, 110]⟩, .int .i64 13, .string ⟨#[110, 117, 108, 108]⟩, .int .i64 0, .string ⟨#[100, 101, 108, 101, 116, 101]⟩, .int .i64 127]

/-- The marks' cells. -/
def markCells : Array Value := ((List.range 12).flatMap fun k => [.string (mkB (mText k)), .int .i64 ((mKind k : Nat) : Int), .string (mkB (mName k))]).toArray

noncomputable def laidWorldT (os : Os) : World :=
  let N := (World.settled Tryz.prog os).heap.size
  let w0 := World.holding Tryz.prog os ⟨#[.cells wordCells 149, .cells Lib.caseCells5 (Tryz.lays204_ren.t 208)], #[], []⟩
  let put (h : Array Obj) (g : Nat) (cs : Array Value) : Array Obj := h.modify g fun
    | .cells _ t frozen => .cells cs t frozen
    | o => o
  let h1 := put w0.heap 0 (Lib.firstTab.map fun z => Value.int .u8 z).toArray
  let h2 := put h1 1 ((List.range 16).flatMap fun i => [Value.int .u8 (Lib.accLo i), Value.int .u8 (Lib.accHi i)]).toArray
  let h3 := put h2 3 #[.slice (some ⟨N, 0, none⟩) 6 6]
  let h4 := put h3 (Tryz.lays204_ren.g 13) #[.slice (some ⟨N + 1, 0, none⟩) 336 336]
  let h5 := put h4 2 markCells
  { w0 with heap := h5 }

theorem laid_metT (os : Os) (args : Array Value) : laidMet Tryz.prog laidT ((laidWorldT os).forCall (fun _ _ => 0) ⟨#[], args, []⟩).memory := by
  show laidMet Tryz.prog ([("unicode/utf8.acceptRanges", Rows.laid_unicode_utf8_acceptRanges), ("marginalia/utf.words", Rows.laid_marginalia_utf_words), ("marginalia/token.marks", Rows.laid_marginalia_token_marks)] ++ [("unicode.CaseRanges", Rows.laid_unicode_CaseRanges), ("unicode/utf8.first", Rows.laid_unicode_utf8_first)]) _
  refine laidMet_swap ?_
  rw [first_eq, accept_eq, show (Rows.laid_unicode_CaseRanges : DataW Unit) = Lib.caseData from Pinned.caseRanges_eq]
  exact laidMet_with_case (ρ := Tryz.lays204_ren) { Tryz.lays204 with } Tryz.lays204.t206 case_extra
    (l := [("unicode/utf8.acceptRanges", Lib.acceptData), ("marginalia/utf.words", Rows.laid_marginalia_utf_words), ("marginalia/token.marks", Rows.laid_marginalia_token_marks), ("unicode/utf8.first", Lib.firstData)])
    10 (by kernel_rfl) (by kernel_rfl) (by kernel_rfl) ((World.settled Tryz.prog default).heap.size + 1) (Tryz.lays204_ren.t 208) (of_decide_eq_true (by kernel_rfl)) (by kernel_rfl) (by kernel_rfl) (by kernel_rfl)
end Go.Proofs.YtpahfhjgcflifaaGreatDoor
