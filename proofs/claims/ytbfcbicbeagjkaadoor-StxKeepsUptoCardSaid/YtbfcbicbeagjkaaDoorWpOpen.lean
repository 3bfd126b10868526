/- The two tables of package utf8, laid: what the rows' list gives, and a world that meets it. | Bytes, and ints, that came in, opened. | What the bound on all arguments together says of one slice. | What the bound on all arguments together says of one string. | Ints that came in, opened. | A datum that came in, opened, with its bulk (instead of XDmOpen). | A piece of syntax that came in, with its bulk, and its marks within an int's range. No walk here. | A wrap that came in. No walk here. -/
import Derived.Test.YtbfcbicbeagjkaaDoorBase
import Derived.Test.YtbfcbicbeagjkaaDoorCards
import Derived.Test.YtbfcbicbeagjkaaDoorTie
import Derived.Test.YtbfcbicbeagjkaaDoorApp
import Derived.ProofKit
import Derived.OpenShut
import Derived.ChangeOld
import Derived.Deep.DeepHandedRow
import Derived.Lib.LaidU8
import Derived.PinnedBridge
import Derived.SizedLaws
import Derived.Test.YtbfcbicbeagjkaaDoorRows
import Derived.Test.YtbfcbicbeagjkaaDoorUEncMath
import Derived.Test.YtbfcbicbeagjkaaDoorDm
import Derived.Deep.MidRow
import Derived.Test.YtbfcbicbeagjkaaDoorSxMath
import Derived.Test.YtbfcbicbeagjkaaDoorSxOpen
import Derived.Test.YtbfcbicbeagjkaaDoorTkSc
namespace Go.Proofs.YtbfcbicbeagjkaaDoor
open Go.ChangeShapes Go.WideShapes Go.ChangeAt Go.RowKit

theorem nFirst : Tryd.prog.globalNamed "unicode/utf8.first" = some 0 := by kernel_rfl
theorem nAccept : Tryd.prog.globalNamed "unicode/utf8.acceptRanges" = some 1 := by kernel_rfl
theorem tFirst : (Tryd.prog.globals[0]?).map (·.type) = some 119 := by kernel_rfl
theorem tAccept : (Tryd.prog.globals[1]?).map (·.type) = some 123 := by kernel_rfl
theorem cellsU8 : Tryd.prog.cellsOf 5 = 1 := by kernel_rfl
theorem cellsTab : Tryd.prog.cellsOf 119 = 256 := by kernel_rfl
theorem cellsAcc : Tryd.prog.cellsOf 122 = 2 := by kernel_rfl

/-- The two tables, as the rows list them. -/
def laid2 : List (String × DataW Unit) := [("unicode/utf8.acceptRanges", Rows.laid_unicode_utf8_acceptRanges), ("unicode/utf8.first", Rows.laid_unicode_utf8_first)]

theorem tabs_of_reads {w : World} (h3 : Lib.VarReads Tryd.prog w "unicode/utf8.first" Lib.firstData) (h4 : Lib.VarReads Tryd.prog w "unicode/utf8.acceptRanges" Lib.acceptData) : Tabs w := by
  refine ⟨fun c hc => ?_, fun i hi => ?_⟩
  · obtain ⟨g, t, cs, fuel, p, hg, hty, hvar, hd⟩ := h3
    obtain rfl := Option.some.inj (nFirst.symm.trans hg)
    obtain rfl := Option.some.inj (tFirst.symm.trans hty)
    have hcs := Lib.cells_of_tab Tryd.underlying119 Tryd.underlying5 cellsU8 cellsTab hd
    have := World.var?_cell hg hvar c
    rw [this, ← Array.getElem?_toList, hcs]
    simp [Lib.firstTab, hc]
  · obtain ⟨g, t, cs, fuel, p, hg, hty, hvar, hd⟩ := h4
    obtain rfl := Option.some.inj (nAccept.symm.trans hg)
    obtain rfl := Option.some.inj (tAccept.symm.trans hty)
    obtain ⟨fuel', d, q, hdi, he⟩ := Lib.array_elem Tryd.underlying123 hd i hi
    simp only [List.getElem?_map, List.getElem?_range hi, Option.map_some, Option.some.injEq] at hdi
    subst hdi
    rw [cellsAcc] at he
    have hcs := Lib.ints_of_struct Tryd.underlying122 (fun j f hj => by
      match j, hj with
      | 0, hj => simp at hj; subst hj; exact ⟨Tryd.underlying5, rfl, cellsU8⟩
      | 1, hj => simp at hj; subst hj; exact ⟨Tryd.underlying5, rfl, cellsU8⟩
      | j + 2, hj => simp at hj) (by rw [cellsAcc]; rfl) he
    have e0 := congrArg (·[0]?) hcs
    have e1 := congrArg (·[1]?) hcs
    simp only [List.getElem?_take, List.getElem?_drop] at e0 e1
    constructor
    · rw [World.var?_cell hg hvar (2 * i), ← Array.getElem?_toList]
      simpa [Nat.mul_comm] using e0
    · rw [World.var?_cell hg hvar (2 * i + 1), ← Array.getElem?_toList]
      simpa [Nat.mul_comm] using e1

theorem accept_eq : (Rows.laid_unicode_utf8_acceptRanges : DataW Unit) = Lib.acceptData := by kernel_rfl
theorem first_eq : Rows.laid_unicode_utf8_first = Lib.firstData := Pinned.utf8First_eq

theorem tabs_of_laid {W : World} (h : laidMetH Tryd.prog laid2 W) : Tabs W := by
  rw [MakeChecks.laidMetH_plain _ _ _ (by kernel_rfl)] at h
  refine tabs_of_reads ?_ ?_
  · rw [← first_eq]
    exact Lib.laidMet.reads h (by simp [laid2])
  · rw [← accept_eq]
    exact Lib.laidMet.reads h (by simp [laid2])

/-- A WORLD FOR THE WITNESS: the settled one, the tables holding what their initialisers lay. -/
def fillWith (l : List Value) : Obj → Obj
  | .cells _ t frozen => .cells l.toArray t frozen
  | o => o
noncomputable def laidWorld (os : Os) : World :=
  { World.holding Tryd.prog os ⟨#[], #[], []⟩ with heap := ((World.holding Tryd.prog os ⟨#[], #[], []⟩).heap.modify 0 (fillWith (Lib.firstTab.map (Value.int .u8)))).modify 1 (fillWith ((List.range 16).flatMap fun i => [Value.int .u8 (Lib.accLo i), Value.int .u8 (Lib.accHi i)])) }
end Go.Proofs.YtbfcbicbeagjkaaDoor
namespace Go.Proofs.YtbfcbicbeagjkaaDoor
open Go.ChangeShapes Go.WideShapes Go.ChangeAt Go.RowKit

end Go.Proofs.YtbfcbicbeagjkaaDoor
namespace Go.Proofs.YtbfcbicbeagjkaaDoor
open Go

theorem bulk_pos {H : Type} (d : DataW H) : 1 ≤ Rows.uptoBulk d := by
  rcases d with l | _ | _ | ⟨_, _⟩ | _ | ⟨_, _⟩ | _ | _
  · cases l <;> simp [Rows.uptoBulk]
  all_goals simp [Rows.uptoBulk]
theorem bulk_len {H : Type} : ∀ l : List (DataW H), l.length ≤ Rows.uptoBulkAll l
  | [] => by simp
  | d :: l => by
    have h1 := bulk_len l
    have h2 := bulk_pos d
    simp only [List.length_cons, Rows.uptoBulkAll]
    omega
theorem bulk_mem {H : Type} {d : DataW H} : ∀ {l : List (DataW H)}, d ∈ l → Rows.uptoBulk d ≤ Rows.uptoBulkAll l
  | [], h => by cases h
  | x :: l, h => by
    simp only [Rows.uptoBulkAll]
    rcases List.mem_cons.1 h with rfl | h
    · omega
    · have := bulk_mem h
      omega
end Go.Proofs.YtbfcbicbeagjkaaDoor
namespace Go.Proofs.YtbfcbicbeagjkaaDoor
open Go

end Go.Proofs.YtbfcbicbeagjkaaDoor
namespace Go.Proofs.YtbfcbicbeagjkaaDoor
open Go.ChangeShapes Go.WideShapes Go.ChangeAt Go.RowKit

end Go.Proofs.YtbfcbicbeagjkaaDoor
namespace Go.Proofs.YtbfcbicbeagjkaaDoor
open Go.ChangeShapes Go.WideShapes Go.ChangeAt Go.RowKit

theorem bulk_small {H : Type} {l : List (DataW H)} (hk : Rows.uptoSmall H l = true) {d : DataW H} (hd : d ∈ l) : Rows.uptoBulk d ≤ 1048576 := by
  have hb : Rows.uptoBulkAll l ≤ 1048576 := by
    unfold Rows.uptoSmall at hk
    exact of_decide_eq_true hk
  exact Nat.le_trans (bulk_mem hd) hb
end Go.Proofs.YtbfcbicbeagjkaaDoor
namespace Go.Proofs.YtbfcbicbeagjkaaDoor
open Go.ChangeShapes Go.WideShapes Go.ChangeAt Go.RowKit

set_option maxRecDepth 100000 in
theorem row_bulk {H : Type} {enc : TypeId × Value → H} {W : World} {n : Nat} {v : Value} {t e : TypeId} (ht : Tryd.prog.underlying t = some (.slice e)) {x : DataW H × List MemPlace} (h : DataW.trod enc Tryd.prog W 0 (fun _ => true) true n t [v] = some x) {o : Option Addr} {l c : Nat} (hv : v = .slice o l c) : l ≤ Rows.uptoBulk x.1 := by
  rcases DataW.trod_slice ht h with ⟨e3, _⟩ | ⟨a', len', cap', elems, rest, n', _, e3, hx, _, _, _, hel, _⟩
  · rw [hv] at e3
    simp only [List.cons.injEq, and_true, Value.slice.injEq] at e3
    omega
  · rw [hv] at e3
    simp only [List.cons.injEq, and_true, Value.slice.injEq] at e3
    have h1 := bulk_len (elems.map (·.1))
    rw [List.length_map, hel] at h1
    rw [hx]
    simp only [Rows.uptoBulk]
    omega
set_option maxRecDepth 100000 in
theorem trod_row_iB {H : Type} {enc : TypeId × Value → H} {W : World} {n : Nat} {v : Value} {x : DataW H × List MemPlace} (h : DataW.trod enc Tryd.prog W 0 (fun _ => true) true n 26 [v] = some x) : ∃ zs, RowV W v zs.length 1 (ics .i64 zs) ∧ zs.length ≤ Rows.uptoBulk x.1 ∧ ∀ z ∈ zs, -9223372036854775808 ≤ z ∧ z ≤ 9223372036854775807 := by
  have hh := h
  rcases open_ints Tryd.underlying26 Tryd.underlying3 cellsIn h with ⟨e1, _⟩ | ⟨a, len, cap, zs, e1, _, hl, hcm, hz, _, hcell, hwz⟩
  · simp only [List.cons.injEq, and_true] at e1
    subst e1
    exact ⟨[], row_nil8 _ _, by simp, fun z hz => by cases hz⟩
  · simp only [List.cons.injEq, and_true] at e1
    have hbk := row_bulk Tryd.underlying26 hh e1
    subst e1
    simp only [if_true] at hz
    have e2 : (zs.take len).length = len := by simp; omega
    refine ⟨zs.take len, ?_, by rw [e2]; exact hbk, fun z hz2 => ?_⟩
    · rw [e2]
      refine row_ints (by unfold ics; simp; omega) (by omega) hl fun h0 => ?_
      obtain ⟨b, off, rfl, hc⟩ := ints_at hcell (show 0 < zs.length by omega)
      refine ⟨b, off, rfl, fun j hj => ?_⟩
      have hj2 : j < len := by unfold ics at hj; simp at hj; omega
      rw [hc j (show j < zs.length by omega)]
      unfold ics
      simp [show j < zs.length by omega]
    · have := hwz z (List.mem_of_mem_take hz2)
      simp [Lit.wf, IntKind.min, IntKind.max, IntKind.signed, IntKind.bits] at this
      omega
set_option maxRecDepth 100000 in
theorem trod_stxB {H : Type} {enc : TypeId × Value → H} {W : World} : ∀ (m fuel : Nat), fuel ≤ m → ∀ (cs : List Value) (x : DataW H × List MemPlace), DataW.trod enc Tryd.prog W 0 (fun _ => true) true fuel 28 cs = some x → ∃ D : Sx, SLay W D cs ∧ (∀ N, Rows.uptoBulk x.1 ≤ N → SmS N D) ∧ ∀ z ∈ D.m, -9223372036854775808 ≤ z ∧ z ≤ 9223372036854775807 := by
  intro m
  induction m with
  | zero =>
    intro fuel hf cs x h
    have : fuel = 0 := by omega
    subst this
    simp [DataW.trod] at h
  | succ m ih =>
    intro fuel hf cs x h
    obtain ⟨xs, n, hn, hxx, hl, hlen, hfl⟩ := DataW.trod_struct Tryd.underlying28 h
    rw [cellsSx] at hl
    obtain ⟨c0, c1, c2, c3, c4, c5, c6, c7, rfl⟩ := list8 hl
    obtain ⟨y0, y1, y2, y3, y4, y5, y6, rfl⟩ : ∃ y0 y1 y2 y3 y4 y5 y6, xs = [y0, y1, y2, y3, y4, y5, y6] := by
      match xs, hlen with
      | [y0, y1, y2, y3, y4, y5, y6], _ => exact ⟨y0, y1, y2, y3, y4, y5, y6, rfl⟩
    have hag : Rows.uptoBulkAll [y0.1, y1.1, y2.1, y3.1, y4.1, y5.1, y6.1] ≤ Rows.uptoBulk x.1 := by
      rw [hxx]
      simp only [Rows.uptoBulk, List.map_cons, List.map_nil]
      omega
    have hb1 := bulk_mem (d := y1.1) (l := [y0.1, y1.1, y2.1, y3.1, y4.1, y5.1, y6.1]) (by simp)
    have hb2 := bulk_mem (d := y2.1) (l := [y0.1, y1.1, y2.1, y3.1, y4.1, y5.1, y6.1]) (by simp)
    have hb3 := bulk_mem (d := y3.1) (l := [y0.1, y1.1, y2.1, y3.1, y4.1, y5.1, y6.1]) (by simp)
    have hb5 := bulk_mem (d := y5.1) (l := [y0.1, y1.1, y2.1, y3.1, y4.1, y5.1, y6.1]) (by simp)
    have hb6 := bulk_mem (d := y6.1) (l := [y0.1, y1.1, y2.1, y3.1, y4.1, y5.1, y6.1]) (by simp)
    have h0 := hfl 0 _ rfl
    have h1 := hfl 1 _ rfl
    have h2 := hfl 2 _ rfl
    have h3 := hfl 3 _ rfl
    have h4 := hfl 4 _ rfl
    have h5 := hfl 5 _ rfl
    have h6 := hfl 6 _ rfl
    clear hfl
    simp [cellsIn] at h0
    simp [cellsSt8] at h1
    simp [cellsNm8] at h2
    simp [cellsSl8] at h3
    simp [cellsIn] at h4
    simp [cellsIs8] at h5
    simp [cellsIs8] at h6
    obtain ⟨k, e0, _, _⟩ := DataW.trod_int Tryd.underlying3 h0
    obtain ⟨s, e1, ey, hsz⟩ := DataW.trod_string Tryd.underlying9 h1
    obtain ⟨a, e4, _, _⟩ := DataW.trod_int Tryd.underlying3 h4
    simp only [List.cons.injEq, and_true] at e0 e1 e4
    subst e0
    subst e1
    subst e4
    have hsb : s.size ≤ Rows.uptoBulk x.1 := by
      have e2 : Rows.uptoBulk y1.1 = Rows.uptoBulk (DataW.lit (.string s.data.toList) : DataW H) := by rw [ey]
      rw [e2] at hb1
      simp only [Rows.uptoBulk] at hb1
      have e : s.data.toList.length = s.size := Array.length_toList
      omega
    obtain ⟨z0, z1, n2, hx2, _, g0, g1⟩ := trod_struct2 Tryd.underlying24 h2
    simp only [cellsBo8, cellsLi8, List.drop_zero, List.drop_succ_cons, List.take_succ_cons, List.take_zero] at g0 g1
    obtain ⟨ng, e2, _⟩ := DataW.trod_bool Tryd.underlying4 g0
    simp only [List.cons.injEq, and_true] at e2
    subst e2
    obtain ⟨r, hr, hlim⟩ := trod_row_u g1
    have hrb : r.length ≤ Rows.uptoBulk x.1 := by
      obtain ⟨_, _, o, c, hv, _⟩ := hr
      have h5 := row_bulk Tryd.underlying22 g1 hv
      have h6 : Rows.uptoBulk z1.1 ≤ Rows.uptoBulk y2.1 := by
        rw [hx2]
        simp only [Rows.uptoBulk, Rows.uptoBulkAll]
        omega
      omega
    obtain ⟨ms, hms, hmb, hmr⟩ := trod_row_iB h5
    obtain ⟨ss, hss, hsb2, _⟩ := trod_row_iB h6
    rcases DataW.trod_slice Tryd.underlying25 h3 with ⟨e3, _⟩ | ⟨ad, len, cap, elems, rest, n3, hn3, e3, hx3, _, hlc, hcm, hel, hea, _, _⟩
    · simp only [List.cons.injEq, and_true] at e3
      subst e3
      exact ⟨.mk k s ng r [] a ms ss, .mk (us := []) hsz hlim hr (row_nil8 _ _) hms hss fun i hi => by simp at hi, fun N hN => .mk (by omega) (by omega) (by simp) (by omega) (by omega) fun i hi => by simp at hi, hmr⟩
    · simp only [List.cons.injEq, and_true] at e3
      subst e3
      have hlb : Rows.uptoBulkAll (elems.map (·.1)) ≤ Rows.uptoBulk y3.1 := by
        rw [hx3]
        simp only [Rows.uptoBulk]
        omega
      have hll : len ≤ Rows.uptoBulk x.1 := by
        have h5 := bulk_len (elems.map (·.1))
        rw [List.length_map, hel] at h5
        omega
      obtain ⟨l, us, hl1, hl2, hl3⟩ := gatherA (sz := 8) (P := fun i cs' D => W.cells? 0 (ad.add (i * 8)) 8 = some cs' ∧ SLay W D cs' ∧ ∀ N, Rows.uptoBulk x.1 ≤ N → SmS N D) len fun i hi => by
        have hi2 := hea i hi
        rw [cellsSx] at hi2
        rw [List.getElem?_eq_getElem (by omega)] at hi2
        rw [Option.bind_eq_some_iff] at hi2
        obtain ⟨cs', h5, h6⟩ := hi2
        obtain ⟨D, hD, hS, _⟩ := ih n3 (by omega) cs' _ h6
        have h9 := bulk_mem (d := (elems[i]'(by omega)).1) (l := elems.map (·.1)) (List.mem_map_of_mem (List.getElem_mem _))
        exact ⟨cs', D, hD.len, h5, hD, fun N hN => hS N (by omega)⟩
      refine ⟨.mk k s ng r l a ms ss, .mk (us := us) hsz hlim hr ?_ hms hss fun i hi => (hl3 i hi).2.1, fun N hN => .mk (by omega) (by omega) (by omega) (by omega) (by omega) fun i hi => (hl3 i hi).2.2 N hN, hmr⟩
      rw [hl1]
      exact row_gather (by decide) hl2 (by omega) (by omega) fun i hi => (hl3 i (by omega)).1
set_option maxRecDepth 100000 in
/-- A piece of syntax that came in, with its bulk. -/
theorem open_stxB {H : Type} {enc : TypeId × Value → H} {W : World} {base : Nat} {v : Value} {d : DataW H} {p : List MemPlace} (hv : Value.okWide Tryd.prog W .any base 28 v)
    (h : DataW.Trod enc Tryd.prog W 0 (fun _ => true) true 28 v d p) : ∃ (D : Sx) (us : List Value), v = .agg us.toArray ∧ SLay W D us ∧ (∀ N, Rows.uptoBulk d ≤ N → SmS N D) ∧ ∀ z ∈ D.m, -9223372036854775808 ≤ z ∧ z ≤ 9223372036854775807 := by
  obtain ⟨cs, rfl, _⟩ := okWide_struct Tryd.underlying28 hv
  obtain ⟨fuel, hf⟩ := h
  obtain ⟨D, hD, hS, hR⟩ := trod_stxB fuel fuel (Nat.le_refl _) _ _ hf
  exact ⟨D, cs.toList, by simp, hD, hS, hR⟩
end Go.Proofs.YtbfcbicbeagjkaaDoor
namespace Go.Proofs.YtbfcbicbeagjkaaDoor
open Go.ChangeShapes Go.WideShapes Go.ChangeAt Go.RowKit

set_option maxRecDepth 100000 in
theorem cellsWr : Tryd.prog.cellsOf 30 = 2 := by kernel_rfl
set_option maxRecDepth 100000 in
theorem cellsIs : Tryd.prog.cellsOf 26 = 1 := by kernel_rfl
set_option maxRecDepth 100000 in
theorem cellsI1 : Tryd.prog.cellsOf 3 = 1 := by kernel_rfl
set_option maxRecDepth 100000 in
theorem trod_iz {H : Type} {enc : TypeId × Value → H} {W : World} {n : Nat} {v : Value} {x : DataW H × List MemPlace} (h : DataW.trod enc Tryd.prog W 0 (fun _ => true) true n 26 [v] = some x) : ∃ zs, Iz W v zs := by
  rcases open_ints Tryd.underlying26 Tryd.underlying3 cellsI1 h with ⟨e1, _⟩ | ⟨a, len, cap, zs, e1, _, hl, hcm, hz, _, hcell, _⟩
  · simp only [List.cons.injEq, and_true] at e1
    subst e1
    exact ⟨[], Iz.nil _⟩
  · simp only [List.cons.injEq, and_true] at e1
    subst e1
    simp only [if_true] at hz
    by_cases h0 : len = 0
    · subst h0
      exact ⟨[], Iz.empty _ _ _⟩
    · obtain ⟨b, off, rfl, hc⟩ := ints_at hcell (by omega)
      refine ⟨zs.take len, Iz.mk (by simp; omega) (by omega) hl (World.block_lt_of_cell? W _ (hc 0 (by omega))) fun j hj => ?_⟩
      rw [hc j (by omega), gz_lt (by simp; omega)]
      simp [show j < zs.length by omega]
set_option maxRecDepth 100000 in
theorem open_wrap {H : Type} {enc : TypeId × Value → H} {W : World} {base : Nat} {v : Value} {d : DataW H} {p : List MemPlace} (hv : Value.okWide Tryd.prog W .any base 30 v)
    (h : DataW.Trod enc Tryd.prog W 0 (fun _ => true) true 30 v d p) : ∃ m s, Wr W v m s := by
  obtain ⟨cs, rfl, hsz⟩ := okWide_struct Tryd.underlying30 hv
  obtain ⟨fuel, hf⟩ := h
  obtain ⟨xs, k, hn, _, hl, hlen, hfl⟩ := DataW.trod_struct Tryd.underlying30 hf
  rw [cellsWr] at hl
  obtain ⟨c0, c1, hcs⟩ : ∃ c0 c1, cs.toList = [c0, c1] := by
    have hl' : cs.toList.length = 2 := hl
    match h : cs.toList, hl' with
    | [c0, c1], _ => exact ⟨c0, c1, rfl⟩
  obtain ⟨y0, y1, rfl⟩ : ∃ y0 y1, xs = [y0, y1] := by
    match xs, hlen with
    | [y0, y1], _ => exact ⟨y0, y1, rfl⟩
  have h0 := hfl 0 _ rfl
  have h1 := hfl 1 _ rfl
  obtain rfl : cs = #[c0, c1] := by apply Array.ext'; simpa using hcs
  simp [cellsIs] at h0
  simp [cellsIs] at h1
  obtain ⟨m, hm⟩ := trod_iz h0
  obtain ⟨s, hs⟩ := trod_iz h1
  exact ⟨m, s, ⟨_, _, rfl, hm, hs⟩⟩
end Go.Proofs.YtbfcbicbeagjkaaDoor
