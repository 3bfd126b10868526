/- stx.flatten: each Symbol's wrap is what it means, and no other piece has one. -/
import Derived.Test.YtbfcbicbeagjkaaDoorSxWear
import Derived.StillTailTactics
namespace Go.Proofs.YtbfcbicbeagjkaaDoor
open Go.RowKit

def isJnO (B : Nat) (r : List Int × List Int × Int) : Value → World → Prop := fun v W => ∃ x, v = .tuple #[x, .int .i64 r.2.2] ∧ WrO B W x r.1 r.2.1
theorem isJnO_stays (B : Nat) (r : List Int × List Int × Int) : Stays (isJnO B r) := fun _ _ _ hb ⟨x, h1, h2⟩ => ⟨x, h1, h2.below hb⟩
def isBoxW (B : Nat) : Value → World → Prop := fun v W => ∃ g, v = .pointer (some ⟨g, 0, none⟩) ∧ B ≤ g ∧ W.heap[g]? = some (.cells #[.slice none 0 0, .slice none 0 0] 30 (0, 0))
theorem isBoxW_stays (B : Nat) : Stays (isBoxW B) := fun _ _ _ hb ⟨g, h1, h2, h3⟩ => ⟨g, h1, h2, (hb.block g (Array.getElem?_eq_some_iff.1 h3).1).trans h3⟩
def FillsW : Value → Value → World → World → Prop := fun p v W0 W' => ∃ g a b, p = .pointer (some ⟨g, 0, none⟩) ∧ v = .agg #[a, b] ∧ W' = (W0.setCell ⟨g, 0, none⟩ a).setCell ⟨g, 1, none⟩ b
/-- What stands behind 'w, _ := Join(..)'. -/
theorem fillsO_end {w1 W0 W' : World} {B : Nat} {p v : Value} {m s : List Int} (hC : Below B w1 W0) (hF : FillsW p v W0 W') (hb : isBoxW B p W0) (hw : isWrO B m s v W0) : ∃ g o1 c1 o2 c2, p = .pointer (some ⟨g, 0, none⟩) ∧ v = .agg #[.slice o1 m.length c1, .slice o2 s.length c2] ∧ B ≤ g ∧ W'.heap[g]? = some (.cells #[.slice o1 m.length c1, .slice o2 s.length c2] 30 (0, 0)) ∧ W'.ownsRow B 3 1 (.slice o1 m.length c1) m.length (ic m) ∧ W'.ownsRow B 3 1 (.slice o2 s.length c2) s.length (ic s) ∧ Below B w1 W' := by
  obtain ⟨g, a, b, hp, hv, rfl⟩ := hF
  obtain ⟨g', hp', hge, hg⟩ := hb
  rw [hp] at hp'
  injection hp' with hp'
  injection hp' with hp'
  injection hp' with hp'
  subst hp'
  have hw' : WrO B W0 v m s := hw
  rw [hv] at hw'
  obtain ⟨mv, sv, e, hu, ht⟩ := hw'.own
  injection e with e
  injection e with e
  injection e with e1 e2
  injection e2 with e2
  subst e1 e2
  obtain ⟨o1, c1, e1⟩ := own_dslice hu
  obtain ⟨o2, c2, e2⟩ := own_dslice ht
  subst e1 e2
  exact ⟨g, o1, c1, o2, c2, hp, hv, hge, putp2d hg _ _, own_fill hu hg (by decide) _ _, own_fill ht hg (by decide) _ _, below_fill2 hC hge _ _⟩
/-- What stays while the pieces in one are changed. -/
structure FlI (w w8 : World) (S : Nat → Prop) (g : Nat) (cs : Array Value) (lv : Value) (r : List Nat) (wr : World) : Prop where
  gx : wr.heap[g]? = some (.cells cs 28 (0, 0))
  lr : wr.ownsRow 0 55 1 lv r.length (ucs r)
  keep : Keeps (fun c => ¬ S c ∧ c ≠ g) w wr
  bel : ∀ B, B ≤ g → B ≤ w.heap.size → (∀ b, S b → B ≤ b) → Below B w wr
  ge : w8.heap.size ≤ wr.heap.size
theorem FlI.step {w w8 wr wr' : World} {S F : Nat → Prop} {g b : Nat} {cs : Array Value} {lv : Value} {r : List Nat} (h : FlI w w8 S g cs lv r wr) (hF : ∀ c, F c → S c) (hb : S b) (hg : ¬ S g) (hlv : ∀ c, lv.ownBlock = some c → ¬ F c ∧ c ≠ b) (hk : Keeps (fun c => ¬ F c ∧ c ≠ b) wr wr') (hB : ∀ B, B ≤ b → B ≤ wr.heap.size → (∀ c, F c → B ≤ c) → Below B wr wr') : FlI w w8 S g cs lv r wr' :=
  ⟨(hk.2 _ (Array.getElem?_eq_some_iff.1 h.gx).1 ⟨fun e => hg (hF g e), fun e => hg (e ▸ hb)⟩).trans h.gx, ownsRow_keep h.lr hk hlv, h.keep.trans (hk.mono fun c _ hc => ⟨fun e => hc.1 (hF c e), fun e => hc.1 (e ▸ hb)⟩),
   fun B h1 h2 h3 => (h.bel B h1 h2 h3).trans (hB B (h3 b hb) (Nat.le_trans h2 h.keep.1) fun c hc => h3 c (hF c hc)), Nat.le_trans h.ge hk.1⟩
/-- A box of a wrap, and its rows. -/
structure BxW (w1 : World) (q : Nat) (mv sv : Value) (m s : List Int) (wr : World) : Prop where
  qx : wr.heap[q]? = some (.cells #[mv, sv] 30 (0, 0))
  mr : wr.ownsRow w1.heap.size 3 1 mv m.length (ic m)
  sr : wr.ownsRow w1.heap.size 3 1 sv s.length (ic s)
theorem BxW.step {w1 wr wr' : World} {q : Nat} {mv sv : Value} {m s : List Int} (h : BxW w1 q mv sv m s wr) {P : Nat → Prop} (hk : Keeps P wr wr') (hq : w1.heap.size ≤ q) (hP : ∀ c, w1.heap.size ≤ c → c < wr.heap.size → P c) : BxW w1 q mv sv m s wr' :=
  ⟨(hk.2 _ (Array.getElem?_eq_some_iff.1 h.qx).1 (hP q hq (Array.getElem?_eq_some_iff.1 h.qx).1)).trans h.qx, ownsRow_keep h.mr hk fun c hc => hP c (h.mr.lt c hc).1 (h.mr.lt c hc).2, ownsRow_keep h.sr hk fun c hc => hP c (h.sr.lt c hc).1 (h.sr.lt c hc).2⟩
theorem BxW.wr {w1 wr : World} {q : Nat} {mv sv : Value} {m s : List Int} (h : BxW w1 q mv sv m s wr) : Wr wr (.agg #[mv, sv]) m s := ⟨_, _, rfl, Iz.of_own h.mr, Iz.of_own h.sr⟩
def FltPost (E : Sx) (S : Nat → Prop) (g off : Nat) (cs : Array Value) (w : World) (e : Ending) (w' : World) : Prop :=
  e = .returned (.tuple #[]) ∧ (∃ cs' us', ∃ S' : Nat → Prop, w'.heap[g]? = some (.cells cs' 28 (0, 0)) ∧ cs'.size = cs.size ∧ (∀ i, i < off ∨ off + 8 ≤ i → cs'[i]? = cs[i]?) ∧ (cs'.toList.drop off).take 8 = us' ∧ SOwn w' S' E us' ∧ ∀ b, S' b → (S b ∨ w.heap.size ≤ b) ∧ b < w'.heap.size) ∧ Keeps (fun b => ¬ S b ∧ b ≠ g) w w' ∧ ∀ B, B ≤ g → B ≤ w.heap.size → (∀ b, S b → B ≤ b) → Below B w w'
/-- The pieces of a row, as the row has them. -/
def lfn (l : List Sx) (D : Sx) : Nat → Sx := fun i => l.getD i D
theorem lfn_at {l : List Sx} {D : Sx} {i : Nat} (h : i < l.length) : lfn l D i = l[i]'h := by unfold lfn; rw [List.getD_eq_getElem?_getD, List.getElem?_eq_getElem h]; rfl
theorem row_of {w : World} {b cap : Nat} {cur : Array Value} {l : List Sx} {us : List Value} {S : Nat → Prop} {Fc : Nat → Nat → Prop} {D : Sx} (hblk : w.heap[b]? = some (.cells cur 28 (0, 0))) (hnc : l.length ≤ cap) (hcs : cur.size = cap * 8) (htk : cur.toList.take (l.length * 8) = us)
    (hin : ∀ (i : Nat) (h : i < l.length), SOwn w (Fc i) (l[i]'h) ((us.drop (i * 8)).take 8)) (hdis : ∀ i j c, i ≠ j → Fc i c → ¬ Fc j c) (hoff : ∀ i, ¬ Fc i b) (hsub : ∀ i c, Fc i c → S c) (hS : ∀ c, S c → c < w.heap.size) : RowO w b cur (lfn l D) l.length Fc :=
  ⟨hblk, by omega, fun i hi => by rw [lfn_at hi, ← take_drop8 hi, htk]; exact hin i hi, hdis, hoff, fun i c hc => hS c (hsub i c hc)⟩
theorem wear_cells {cs cs' : Array Value} {off : Nat} {a0 a1 a2 a3 a4 a5 a6 a7 mv sv : Value} (h : (cs.toList.drop off).take 8 = [a0, a1, a2, a3, a4, a5, a6, a7]) (hw : WearC cs off mv sv cs') : (cs'.toList.drop off).take 8 = [a0, a1, a2, a3, a4, a5, mv, sv] := by
  obtain ⟨_, ho, h6, h7⟩ := hw
  obtain ⟨c0, c1, c2, c3, c4, c5, _, _⟩ := cells8_at h
  simp only [Array.getElem?_toList] at c0 c1 c2 c3 c4 c5
  refine at_cells8 ?_ ?_ ?_ ?_ ?_ ?_ ?_ ?_ <;> rw [Array.getElem?_toList]
  · exact (ho off (by omega) (by omega)).trans c0
  · exact (ho _ (by omega) (by omega)).trans c1
  · exact (ho _ (by omega) (by omega)).trans c2
  · exact (ho _ (by omega) (by omega)).trans c3
  · exact (ho _ (by omega) (by omega)).trans c4
  · exact (ho _ (by omega) (by omega)).trans c5
  · exact h6
  · exact h7
/-- The cells of a piece at a place of a block. -/
theorem cells_of {w : World} {g off : Nat} {cs : Array Value} {a0 a1 a2 a3 a4 a5 a6 a7 : Value} {e : TypeId} (hg : w.heap[g]? = some (.cells cs e (0, 0))) (h : (cs.toList.drop off).take 8 = [a0, a1, a2, a3, a4, a5, a6, a7]) : w.cell? ⟨g, off, none⟩ = some a0 ∧ w.cell? ⟨g, off + 1, none⟩ = some a1 ∧ w.cell? ⟨g, off + 2, none⟩ = some a2 ∧ w.cell? ⟨g, off + 3, none⟩ = some a3 ∧ w.cell? ⟨g, off + 4, none⟩ = some a4 ∧ w.cell? ⟨g, off + 5, none⟩ = some a5 ∧ w.cell? ⟨g, off + 6, none⟩ = some a6 ∧ w.cell? ⟨g, off + 7, none⟩ = some a7 := by
  obtain ⟨c0, c1, c2, c3, c4, c5, c6, c7⟩ := cells8_at h
  simp only [Array.getElem?_toList] at c0 c1 c2 c3 c4 c5 c6 c7
  exact ⟨(cell_heap hg _).trans c0, (cell_heap hg _).trans c1, (cell_heap hg _).trans c2, (cell_heap hg _).trans c3, (cell_heap hg _).trans c4, (cell_heap hg _).trans c5, (cell_heap hg _).trans c6, (cell_heap hg _).trans c7⟩

set_option maxRecDepth 100000 in
set_option maxHeartbeats 8000000 in
/-- stx.flatten. -/
theorem flatten_any : ∀ (kk : Nat) (D : Sx), D.sz ≤ kk → ∀ (us : List Value) (S : Nat → Prop) (g off : Nat) (cs : Array Value) (x : Value) (m s : List Int) (w : World), SOwn w S D us → (∀ b, S b → b < w.heap.size) → ¬ S g → w.heap[g]? = some (.cells cs 28 (0, 0)) → off + 8 ≤ cs.size → (cs.toList.drop off).take 8 = us → Wr w x m s →
    Calls Tryd.prog 24 #[.pointer (some ⟨g, off, none⟩), x] w (FltPost (fltS m s D) S g off cs w) := by
  intro kk
  induction kk with
  | zero => intro D h; have := D.sz_pos; omega
  | succ kk ih =>
    intro D hsz us S g off cs x m s w hso hSb hSg hgb hoff hcs hx
    have HIH := Lib.hid ih
    clear ih
    obtain ⟨k, t, n, r, l, a, dm, ds⟩ := D
    have HSZ : Hid (∀ (j : Nat) (h : j < l.length), (l[j]'h).sz ≤ kk) := Lib.hid fun j h => by
      have := Sx.sz_mem (d := .mk k t n r l a dm ds) (x := l[j]) (List.getElem_mem h)
      omega
    obtain ⟨lv, av, mv, sv, xs, Fc0, rfl, ht, hlim, hr, hl, hm, hs, hrp, hmp, hsp, hlp, hsub, hdis, hin⟩ := hso.row
    obtain ⟨lo, lc, rfl⟩ := own_dslice hr
    obtain ⟨ao, ac, rfl⟩ := own_dslice hl
    obtain ⟨mo, mc, rfl⟩ := own_dslice hm
    obtain ⟨so, sc, rfl⟩ := own_dslice hs
    have HTL := Lib.hid (And.intro ht hlim)
    have HDW : Hid (Wr w (.agg #[.slice mo dm.length mc, .slice so ds.length sc]) dm ds) := Lib.hid ⟨_, _, rfl, RowV.of_own hm, RowV.of_own hs⟩
    have HRP := Lib.hid hrp
    have HLP := Lib.hid hlp
    have HSUB := Lib.hid hsub
    have HDIS := Lib.hid hdis
    have HIN := Lib.hid hin
    have HLR := Lib.hid hr
    have HLL := Lib.hid hl
    have HS := Lib.hid hSb
    have HG := Lib.hid hSg
    have HGB := Lib.hid hgb
    have HOF := Lib.hid hoff
    have HCS := Lib.hid hcs
    have HX := Lib.hid hx
    obtain ⟨wm, ws, rfl, hwm, hws⟩ := hx.cells
    obtain ⟨_, ma, mac, hmv, _, _⟩ := hwm.cases
    obtain ⟨_, sa, sac, hsv, _, _⟩ := hws.cases
    generalize m.length = ml at hmv
    generalize s.length = sl at hsv
    subst hmv hsv
    have hmx : l.length ≤ 9223372036854775807 := by have := (RowV.of_own hl).2.1; unfold maxLen at this; omega
    have HMX := Lib.hid hmx
    clear hso hSb hSg hgb hoff hcs hx hwm hws ht hlim hr hl hm hs hrp hmp hsp hlp hsub hdis hin hsz hmx
    rw [fltS_mk]
    obtain ⟨J, HJ⟩ : ∃ J, Hid (wjA m s dm ds = J) := ⟨_, Lib.hid rfl⟩
    rw [HJ.out]
    obtain ⟨M3, HM3⟩ : ∃ M, Hid ((if k = 4 then J.1 else []) = M) := ⟨_, Lib.hid rfl⟩
    obtain ⟨S3, HS3⟩ : ∃ M, Hid ((if k = 4 then J.2.1 else []) = M) := ⟨_, Lib.hid rfl⟩
    rw [HM3.out, HS3.out]
    have hb1 := below1 w (.cells #[.slice ma ml mac, .slice sa sl sac] 30)
    have hn1 := heap_alloc_new w (.cells #[.slice ma ml mac, .slice sa sl sac] 30)
    go_enter Tryd.func24, Tryd.ntmps24
    go_upto_region 1 with fail
    generalize w.alloc (.cells #[.slice ma ml mac, .slice sa sl sac] 30) = w1 at *
    have HB1 := Lib.hid hb1
    have HX1 := Lib.hid hn1
    have HG1 := Lib.hid ((hb1.block _ (Array.getElem?_eq_some_iff.1 HGB.out).1).trans HGB.out)
    have HLT := Lib.hid (And.intro (Array.getElem?_eq_some_iff.1 HX1.out).1 (Array.getElem?_eq_some_iff.1 HG1.out).1)
    clear hb1 hn1
    refine wp_region_late 10 9 7 4 14 (psi [isV (.agg #[.slice ma ml mac, .slice sa sl sac]), isV (.pointer (some ⟨g, off, none⟩)), isV (.pointer (some ⟨g, off, none⟩)), isV (.agg #[.int .i64 k, .string t, .bool n, .slice lo r.length lc, .slice ao l.length ac, .int .i64 a, .slice mo dm.length mc, .slice so ds.length sc]), isV (.agg #[.slice mo dm.length mc, .slice so ds.length sc]), isJnO w1.heap.size J, isJnO w1.heap.size J, isWrO w1.heap.size J.1 J.2.1, isV (.int .i64 J.2.2), isBoxW w1.heap.size, nothing, isV (.int .i64 J.2.2)]) (fun W => Below w1.heap.size w1 W) (FillsW) (by kernel_rfl) (Below.refl _ _).drew (psi_mono ?_) (by kernel_rfl) (by kernel_rfl) (by kernel_rfl) ?_ ?_
    · intro pq hp
      simp only [List.mem_cons, List.not_mem_nil, or_false] at hp
      (repeat' rcases hp with rfl | hp) <;> first | exact isV_stays _ | exact nothing_stays | (subst hp; first | exact isV_stays _ | exact nothing_stays) | exact isBoxW_stays _ | exact isJnO_stays _ _ | exact isWrO_stays _ _ _ | (subst hp; exact isBoxW_stays _) | (subst hp; exact isJnO_stays _ _) | (subst hp; exact isWrO_stays _ _ _)
    · refine AllOps.cons ?_ ?_
      · refine OpL.early (by kernel_rfl) (by kernel_rfl) fun ab W hC hB hdep => ?_
        refine .inl ⟨rfl, ?_⟩
        have b0 : ab.tmps.getD 3 undef = .pointer (some ⟨w.heap.size, 0, none⟩) := hB.off 3 (by kernel_rfl)
        obtain ⟨c0, c1, _, _⟩ := rowp2d ((hC.block _ HLT.out.1).trans HX1.out)
        clear hB hdep
        refine goes_value (v := .agg #[.slice ma ml mac, .slice sa sl sac]) ?_ hC rfl
        simp only [execOp, Act.eval, b0]
        go_simp
      refine AllOps.cons ?_ ?_
      · refine OpL.early (by kernel_rfl) (by kernel_rfl) fun ab W hC hB hdep => ?_
        refine .inl ⟨rfl, ?_⟩
        have b0 : ab.tmps.getD 0 undef = .pointer (some ⟨g, off, none⟩) := hB.off 0 (by kernel_rfl)
        clear hB hdep
        refine goes_value (v := .pointer (some ⟨g, off, none⟩)) ?_ hC rfl
        simp only [execOp, Act.eval, b0]
        go_simp
      refine AllOps.cons ?_ ?_
      · refine OpL.early (by kernel_rfl) (by kernel_rfl) fun ab W hC hB hdep => ?_
        refine .inl ⟨rfl, ?_⟩
        obtain ⟨x0, (q0 : (isV (.pointer (some ⟨g, off, none⟩))) x0 W), e0⟩ := hdep 1 9 (by kernel_rfl)
        obtain rfl : x0 = .pointer (some ⟨g, off, none⟩) := q0
        clear hB hdep
        refine goes_value (v := .pointer (some ⟨g, off, none⟩)) ?_ hC rfl
        simp only [execOp, Act.eval, e0]
        go_simp
      refine AllOps.cons ?_ ?_
      · refine OpL.early (by kernel_rfl) (by kernel_rfl) fun ab W hC hB hdep => ?_
        refine .inl ⟨rfl, ?_⟩
        obtain ⟨x0, (q0 : (isV (.pointer (some ⟨g, off, none⟩))) x0 W), e0⟩ := hdep 2 10 (by kernel_rfl)
        obtain rfl : x0 = .pointer (some ⟨g, off, none⟩) := q0
        obtain ⟨c0, c1, c2, c3, c4, c5, c6, c7⟩ := cells_of ((hC.block _ HLT.out.2).trans HG1.out) HCS.out
        clear hB hdep
        refine goes_value (v := .agg #[.int .i64 k, .string t, .bool n, .slice lo r.length lc, .slice ao l.length ac, .int .i64 a, .slice mo dm.length mc, .slice so ds.length sc]) ?_ hC rfl
        simp only [execOp, Act.eval, e0]
        go_simp
      refine AllOps.cons ?_ ?_
      · refine OpL.early (by kernel_rfl) (by kernel_rfl) fun ab W hC hB hdep => ?_
        refine .inl ⟨rfl, ?_⟩
        obtain ⟨x0, (q0 : (isV (.agg #[.int .i64 k, .string t, .bool n, .slice lo r.length lc, .slice ao l.length ac, .int .i64 a, .slice mo dm.length mc, .slice so ds.length sc])) x0 W), e0⟩ := hdep 3 11 (by kernel_rfl)
        obtain rfl : x0 = .agg #[.int .i64 k, .string t, .bool n, .slice lo r.length lc, .slice ao l.length ac, .int .i64 a, .slice mo dm.length mc, .slice so ds.length sc] := q0
        clear hB hdep
        refine goes_call (f := 18) (args := #[.agg #[.int .i64 k, .string t, .bool n, .slice lo r.length lc, .slice ao l.length ac, .int .i64 a, .slice mo dm.length mc, .slice so ds.length sc]]) ?_ ?_
        · simp only [execOp]
          go_simp
        · exact (worn_any _ _ _ _ _ _ _ _ _ _ _ _ _ _ _ _ W).mono fun e w7 ⟨he, hb⟩ => ⟨_, he, hC.trans (hb.mono hC.size), hb, rfl⟩
      refine AllOps.cons ?_ ?_
      · refine OpL.early (by kernel_rfl) (by kernel_rfl) fun ab W hC hB hdep => ?_
        refine .inl ⟨rfl, ?_⟩
        obtain ⟨x0, (q0 : (isV (.agg #[.slice ma ml mac, .slice sa sl sac])) x0 W), e0⟩ := hdep 0 8 (by kernel_rfl)
        obtain rfl : x0 = .agg #[.slice ma ml mac, .slice sa sl sac] := q0
        obtain ⟨x1, (q1 : (isV (.agg #[.slice mo dm.length mc, .slice so ds.length sc])) x1 W), e1⟩ := hdep 4 12 (by kernel_rfl)
        obtain rfl : x1 = .agg #[.slice mo dm.length mc, .slice so ds.length sc] := q1
        clear hB hdep
        refine goes_call (f := 17) (args := #[.agg #[.slice ma ml mac, .slice sa sl sac], .agg #[.slice mo dm.length mc, .slice so ds.length sc]]) ?_ ?_
        · simp only [execOp]
          go_simp
        · exact (wjoinO_any _ _ m s dm ds W (HX.out.below (HB1.out.trans (hC.mono HB1.out.size))) (HDW.out.below (HB1.out.trans (hC.mono HB1.out.size)))).mono fun e w7 ⟨⟨x7, he, hw7⟩, hb⟩ => by rw [HJ.out] at he hw7; exact ⟨_, he, hC.trans (hb.mono hC.size), hb, x7, rfl, hw7.low hC.size⟩
      refine AllOps.cons ?_ ?_
      · refine OpL.early (by kernel_rfl) (by kernel_rfl) fun ab W hC hB hdep => ?_
        refine .inl ⟨rfl, ?_⟩
        obtain ⟨x0, (q0 : (isJnO w1.heap.size J) x0 W), e0⟩ := hdep 5 13 (by kernel_rfl)
        obtain ⟨jx0, rfl, hj0⟩ := q0
        clear hB hdep
        refine goes_value (v := .tuple #[jx0, .int .i64 J.2.2]) ?_ hC ⟨jx0, rfl, hj0⟩
        simp only [execOp, Act.eval, e0]
        go_simp
      refine AllOps.cons ?_ ?_
      · refine OpL.early (by kernel_rfl) (by kernel_rfl) fun ab W hC hB hdep => ?_
        refine .inl ⟨rfl, ?_⟩
        obtain ⟨x0, (q0 : (isJnO w1.heap.size J) x0 W), e0⟩ := hdep 6 7 (by kernel_rfl)
        obtain ⟨jx0, rfl, hj0⟩ := q0
        clear hB hdep
        refine goes_value (v := jx0) ?_ hC hj0
        simp only [execOp, Act.eval, e0]
        go_simp
      refine AllOps.cons ?_ ?_
      · refine OpL.pure (by kernel_rfl) (by kernel_rfl) fun ab W W1 hC hB hdep => .inl ⟨rfl, ?_⟩
        obtain ⟨x0, (q0 : (isJnO w1.heap.size J) x0 W), e0⟩ := hdep 6 7 (by kernel_rfl)
        obtain ⟨jx0, rfl, hj0⟩ := q0
        clear hB hdep
        refine ⟨.int .i64 J.2.2, ?_, rfl⟩
        simp only [execOp, Act.eval, e0]
        go_simp
      refine AllOps.cons ?_ ?_
      · refine OpL.early (by kernel_rfl) (by kernel_rfl) fun ab W hC hB hdep => ?_
        refine .inl ⟨rfl, ?_⟩
        clear hB hdep
        refine goes_world (v := .pointer (some ⟨W.heap.size, 0, none⟩)) (w1 := W.alloc (.cells #[.slice none 0 0, .slice none 0 0] 30)) ?_ (hC.trans ((below1 W _).mono hC.size)) (below1 W _) ⟨_, rfl, hC.size, heap_alloc_new W _⟩
        simp only [execOp]
        go_simp
      refine AllOps.cons ?_ ?_
      · refine OpL.write (by kernel_rfl) fun vals ab W hC hB hdep => ⟨rfl, ?_⟩
        obtain ⟨(q0 : (isBoxW w1.heap.size) (vals 9) W), e0⟩ := hdep 9 4 (by kernel_rfl)
        generalize vals 9 = x0 at *
        obtain ⟨g0, rfl, hge0, hg0⟩ := q0
        obtain ⟨(q1 : (isWrO w1.heap.size J.1 J.2.1) (vals 7) W), e1⟩ := hdep 7 14 (by kernel_rfl)
        generalize vals 7 = x1 at *
        obtain ⟨u1, v1, rfl, hu1, hv1⟩ := WrO.own q1
        obtain ⟨uo1, uc1, rfl⟩ := own_dslice hu1
        obtain ⟨vo1, vc1, rfl⟩ := own_dslice hv1
        clear hB hdep
        obtain ⟨c0, c1, z1, z2⟩ := rowp2d hg0
        refine writes_skip (w1 := (W.setCell ⟨g0, 0, none⟩ _).setCell ⟨g0, 1, none⟩ _) ?_ ⟨_, _, _, rfl, rfl, rfl⟩
        simp only [execOp, Act.eval, e0, e1]
        go_simp
      refine AllOps.cons ?_ ?_
      · refine OpL.pure (by kernel_rfl) (by kernel_rfl) fun ab W W1 hC hB hdep => .inl ⟨rfl, ?_⟩
        obtain ⟨x0, (q0 : (isV (.int .i64 J.2.2)) x0 W), e0⟩ := hdep 8 15 (by kernel_rfl)
        obtain rfl : x0 = .int .i64 J.2.2 := q0
        clear hB hdep
        refine ⟨.int .i64 J.2.2, ?_, rfl⟩
        simp only [execOp, Act.eval, e0]
        go_simp
      exact trivial
    · intro vals aa W0 w8 hC hFin hB hall
      obtain ⟨(k0 : (isV (.agg #[.slice ma ml mac, .slice sa sl sac])) (vals 0) W0), e0⟩ := hall 0 _ rfl (by decide)
      obtain ⟨(k1 : (isV (.pointer (some ⟨g, off, none⟩))) (vals 1) W0), e1⟩ := hall 1 _ rfl (by decide)
      obtain ⟨(k2 : (isV (.pointer (some ⟨g, off, none⟩))) (vals 2) W0), e2⟩ := hall 2 _ rfl (by decide)
      obtain ⟨(k3 : (isV (.agg #[.int .i64 k, .string t, .bool n, .slice lo r.length lc, .slice ao l.length ac, .int .i64 a, .slice mo dm.length mc, .slice so ds.length sc])) (vals 3) W0), e3⟩ := hall 3 _ rfl (by decide)
      obtain ⟨(k4 : (isV (.agg #[.slice mo dm.length mc, .slice so ds.length sc])) (vals 4) W0), e4⟩ := hall 4 _ rfl (by decide)
      obtain ⟨(k5 : (isJnO w1.heap.size J) (vals 5) W0), e5⟩ := hall 5 _ rfl (by decide)
      obtain ⟨(k6 : (isJnO w1.heap.size J) (vals 6) W0), e6⟩ := hall 6 _ rfl (by decide)
      obtain ⟨(k7 : (isWrO w1.heap.size J.1 J.2.1) (vals 7) W0), e7⟩ := hall 7 _ rfl (by decide)
      obtain ⟨(k8 : (isV (.int .i64 J.2.2)) (vals 8) W0), e8⟩ := hall 8 _ rfl (by decide)
      obtain ⟨(k9 : (isBoxW w1.heap.size) (vals 9) W0), e9⟩ := hall 9 _ rfl (by decide)
      obtain ⟨(k11 : (isV (.int .i64 J.2.2)) (vals 11) W0), e11⟩ := hall 11 _ rfl (by decide)
      have hv : ∀ pq ∈ [((8 : Nat), (.agg #[.slice ma ml mac, .slice sa sl sac] : Value)), ((9 : Nat), (.pointer (some ⟨g, off, none⟩) : Value)), ((10 : Nat), (.pointer (some ⟨g, off, none⟩) : Value)), ((11 : Nat), (.agg #[.int .i64 k, .string t, .bool n, .slice lo r.length lc, .slice ao l.length ac, .int .i64 a, .slice mo dm.length mc, .slice so ds.length sc] : Value)), ((12 : Nat), (.agg #[.slice mo dm.length mc, .slice so ds.length sc] : Value)), ((13 : Nat), (vals 5 : Value)), ((7 : Nat), (vals 6 : Value)), ((14 : Nat), (vals 7 : Value)), ((15 : Nat), (.int .i64 J.2.2 : Value)), ((4 : Nat), (vals 9 : Value)), ((5 : Nat), (.int .i64 J.2.2 : Value))], aa.tmps.getD pq.1 undef = pq.2 := by
        intro pq hp
        simp only [List.mem_cons, List.not_mem_nil, or_false] at hp
        rcases hp with rfl | rfl | rfl | rfl | rfl | rfl | rfl | rfl | rfl | rfl | rfl
        · exact (e0 _ rfl).trans k0
        · exact (e1 _ rfl).trans k1
        · exact (e2 _ rfl).trans k2
        · exact (e3 _ rfl).trans k3
        · exact (e4 _ rfl).trans k4
        · exact e5 _ rfl
        · exact e6 _ rfl
        · exact e7 _ rfl
        · exact (e8 _ rfl).trans k8
        · exact e9 _ rfl
        · exact (e11 _ rfl).trans k11
      have hact := act_fold _ hB hv (by kernel_rfl)
      subst hact
      clear hv hall hB e0 e1 e2 e3 e4 e5 e6 e7 e8 e9 e11
      refine (‹∀ (a : Act) (w : World), Code.wp Tryd.prog _ _ a w → _›) _ _ ?_
      simp only [List.foldl, List.setIfInBounds_toArray, List.set_cons_succ, List.set_cons_zero]
      obtain ⟨q, jo, jc, ko, kc, hpq, hpv, hq, hqx, hmr, hsr, hb8⟩ := fillsO_end hC hFin k9 k7
      rw [hpq, hpv]
      have HQ := Lib.hid hq
      have HBX : Hid (BxW w1 q (.slice jo J.1.length jc) (.slice ko J.2.1.length kc) J.1 J.2.1 w8) := Lib.hid ⟨hqx, hmr, hsr⟩
      have hB8 := HB1.out.trans (hb8.mono HB1.out.size)
      have HFI : Hid (FlI w w8 S g cs (.slice lo r.length lc) r w8) := Lib.hid ⟨(hB8.block _ (Array.getElem?_eq_some_iff.1 HGB.out).1).trans HGB.out, ownsRow_keep HLR.out (Keeps.of_below (P := fun _ => True) hB8) fun _ _ => trivial, Keeps.of_below hB8, fun B _ h2 _ => hB8.mono h2, Nat.le_refl _⟩
      have HB8 := Lib.hid hB8
      have HW1 : Hid (w.heap.size ≤ w1.heap.size ∧ w1.heap.size ≤ w8.heap.size) := Lib.hid ⟨HB1.out.size, hb8.size⟩
      clear hpq hpv hq hqx hmr hsr hb8 hB8 hC hFin k5 k6 HX HX1 HG1 HLT HDW HB1
      generalize vals 5 = v5 at *
      generalize vals 6 = v6 at *
      obtain ⟨c0, c1, c2, c3, c4, c5, c6, c7⟩ := cells_of HFI.out.gx HCS.out
      go_wp2_with fail
      clear c0 c1 c2 c3 c4 c5 c6 c7
      have HRB : Hid (∀ c, (Value.slice jo J.1.length jc).ownBlock = some c → c < w8.heap.size) := Lib.hid fun c hc => (HBX.out.mr.lt c hc).2
      have HRC : Hid (∀ c, (Value.slice ko J.2.1.length kc).ownBlock = some c → c < w8.heap.size) := Lib.hid fun c hc => (HBX.out.sr.lt c hc).2
      have HQL : Hid (q < w8.heap.size) := Lib.hid (Array.getElem?_eq_some_iff.1 HBX.out.qx).1
      rcases HLL.out.2 with ⟨hv, hn0⟩ | ⟨b, cap0, cur, hv, hge, hblk, hnc, hcm, hcz, htk⟩
      · injection hv with hv1 hv2 hv3
        subst hv1 hv3
        obtain rfl : l = [] := List.eq_nil_of_length_eq_zero hn0
        go_loopw [21] (fun v wr => v = .int .i64 0 ∧ wr = w8) (fun _ _ => 0)
        case atStart => exact ⟨rfl, rfl⟩
        case round =>
          obtain ⟨rfl, hwr⟩ := hrel
          subst hwr
          obtain ⟨c0, c1, c2, c3, c4, c5, c6, c7⟩ := cells_of HFI.out.gx HCS.out
          obtain ⟨d0, d1, _, _⟩ := rowp2d HBX.out.qx
          by_cases hk4 : k = 4
          · have hkn : (k != 4) = false := by rw [hk4]; rfl
            have HK4 := Lib.hid hk4
            clear hk4
            go_wp2_with fail
            clear c0 c1 c2 c3 c4 c5 c6 c7 d0 d1 hkn
            refine (wearO_any g off cs jo J.1.length jc ko J.2.1.length kc wr HFI.out.gx HOF.out).mono ?_
            rintro e w9 ⟨rfl, ⟨cs', hgx', hwc⟩, hk9, hb9⟩
            have HE := Lib.hid (And.intro hgx' (And.intro hwc (And.intro hk9 hb9)))
            clear hgx' hwc hk9 hb9
            go_wp2_with fail
            go_end0
            obtain rfl : M3 = J.1 := HM3.out.symm.trans (if_pos HK4.out)
            obtain rfl : S3 = J.2.1 := HS3.out.symm.trans (if_pos HK4.out)
            have hw1 := HW1.out
            have hgl := (Array.getElem?_eq_some_iff.1 HGB.out).1
            have hge := HFI.out.ge
            have hk9 := HE.out.2.2.1
            have hs9 := hk9.1
            have hkw : Keeps (fun c => c ≠ g) wr w9 := hk9
            have hlr := ownsRow_keep HFI.out.lr hkw fun c hc => (fun e => HG.out (e ▸ (HRP.out c hc).1))
            have hmr := own_low (ownsRow_keep HBX.out.mr hkw fun c hc => by have := (HBX.out.mr.lt c hc).1; omega) (Nat.zero_le _)
            have hsr := own_low (ownsRow_keep HBX.out.sr hkw fun c hc => by have := (HBX.out.sr.lt c hc).1; omega) (Nat.zero_le _)
            have hkp : Keeps (fun c => ¬ S c ∧ c ≠ g) w w9 := ⟨Nat.le_trans HFI.out.keep.1 hkw.1, fun c hc h => (hkw.2 c (Nat.lt_of_lt_of_le hc HFI.out.keep.1) h.2).trans (HFI.out.keep.2 c hc h)⟩
            have hbl : ∀ B, B ≤ g → B ≤ w.heap.size → (∀ b, S b → B ≤ b) → Below B w w9 := fun B h1 h2 h3 => (HFI.out.bel B h1 h2 h3).trans (HE.out.2.2.2 B h1 (Nat.le_trans h2 HFI.out.keep.1))
            refine ⟨rfl, ⟨cs', _, fun c => (S c ∨ w.heap.size ≤ c) ∧ c < w9.heap.size, HE.out.1, HE.out.2.1.1, fun i hi => HE.out.2.1.2.1 i (by omega) (by omega), wear_cells HCS.out HE.out.2.1, .mk (Fc := fun _ _ => False) HTL.out.1 HTL.out.2 hlr (World.ownsRow_nil _ _ _ _) hmr hsr (fun c hc => ⟨⟨.inl (HRP.out c hc).1, by have := HS.out c (HRP.out c hc).1; have := hkp.1; omega⟩, fun i hi => hi⟩) (fun c hc => ⟨⟨.inr (by have := (HBX.out.mr.lt c hc).1; omega), by have := (HBX.out.mr.lt c hc).2; have := hkw.1; omega⟩, fun i hi => hi⟩) (fun c hc => ⟨⟨.inr (by have := (HBX.out.sr.lt c hc).1; omega), by have := (HBX.out.sr.lt c hc).2; have := hkw.1; omega⟩, fun i hi => hi⟩) (fun c hc => by cases hc) (fun _ _ h => h.elim) (fun _ _ _ _ h => h.elim) (fun i hi => by cases hi), fun c hc => hc⟩, hkp, hbl⟩
          · have hkn : (k != 4) = true := by rw [bne_iff_ne]; exact hk4
            have HK4 := Lib.hid hk4
            clear hk4
            obtain ⟨_, _, z0, z1⟩ := rowp2d HBX.out.qx
            go_upto_region 9 with fail
            have hqx2 := putp2d HBX.out.qx (.slice none 0 0) (.slice none 0 0)
            have hkq : Keeps (fun c => c ≠ q) wr ((wr.setCell ⟨q, 0, none⟩ (.slice none 0 0)).setCell ⟨q, 1, none⟩ (.slice none 0 0)) := ((Keeps.refl (fun c => c ≠ q) wr).set (p := ⟨q, 0, none⟩) (fun h => h rfl) _).set (p := ⟨q, 1, none⟩) (fun h => h rfl) _
            have hbq : ∀ B, B ≤ q → Below B wr ((wr.setCell ⟨q, 0, none⟩ (.slice none 0 0)).setCell ⟨q, 1, none⟩ (.slice none 0 0)) := fun B h => below_fill2 (Below.refl B wr) h _ _
            clear c0 c1 c2 c3 c4 c5 c6 c7 d0 d1 hkn z0 z1
            generalize (wr.setCell ⟨q, 0, none⟩ (.slice none 0 0)).setCell ⟨q, 1, none⟩ (.slice none 0 0) = wq at *
            have hw1 := HW1.out
            have hq1 := HQ.out
            have hgl := (Array.getElem?_eq_some_iff.1 HGB.out).1
            have HGQ := Lib.hid ((hkq.2 _ (Array.getElem?_eq_some_iff.1 HFI.out.gx).1 (by omega)).trans HFI.out.gx)
            have HKQ := Lib.hid hkq
            have HBQ := Lib.hid hbq
            obtain ⟨d0, d1, _, _⟩ := rowp2d hqx2
            clear hqx2 hkq hbq
            go_wp2_with fail
            clear d0 d1
            refine (wearO_any g off cs none 0 0 none 0 0 wq HGQ.out HOF.out).mono ?_
            rintro e w9 ⟨rfl, ⟨cs', hgx', hwc⟩, hk9, hb9⟩
            have HE := Lib.hid (And.intro hgx' (And.intro hwc (And.intro hk9 hb9)))
            clear hgx' hwc hk9 hb9
            go_wp2_with fail
            go_end0
            obtain rfl : M3 = [] := HM3.out.symm.trans (if_neg HK4.out)
            obtain rfl : S3 = [] := HS3.out.symm.trans (if_neg HK4.out)
            have hw1 := HW1.out
            have hgl := (Array.getElem?_eq_some_iff.1 HGB.out).1
            have hge := HFI.out.ge
            have hk9 := HE.out.2.2.1
            have hs9 := hk9.1
            have hkw : Keeps (fun c => c ≠ g ∧ c ≠ q) wr w9 := (HKQ.out.mono fun c _ h => h.2).trans (hk9.mono fun c _ h => h.1)
            have hsq := HKQ.out.1
            have hlr := ownsRow_keep HFI.out.lr hkw fun c hc => ⟨(fun e => HG.out (e ▸ (HRP.out c hc).1)), (fun e => by have := HS.out c (HRP.out c hc).1; have := HQ.out; omega)⟩
            have hkp : Keeps (fun c => ¬ S c ∧ c ≠ g) w w9 := ⟨Nat.le_trans HFI.out.keep.1 hkw.1, fun c hc h => (hkw.2 c (Nat.lt_of_lt_of_le hc HFI.out.keep.1) ⟨h.2, by have := HQ.out; omega⟩).trans (HFI.out.keep.2 c hc h)⟩
            have hbl : ∀ B, B ≤ g → B ≤ w.heap.size → (∀ b, S b → B ≤ b) → Below B w w9 := fun B h1 h2 h3 => ((HFI.out.bel B h1 h2 h3).trans (HBQ.out B (by have := HQ.out; omega))).trans (HE.out.2.2.2 B h1 (Nat.le_trans h2 (Nat.le_trans HFI.out.keep.1 hsq)))
            refine ⟨rfl, ⟨cs', _, fun c => (S c ∨ w.heap.size ≤ c) ∧ c < w9.heap.size, HE.out.1, HE.out.2.1.1, fun i hi => HE.out.2.1.2.1 i (by omega) (by omega), wear_cells HCS.out HE.out.2.1, .mk (Fc := fun _ _ => False) HTL.out.1 HTL.out.2 hlr (World.ownsRow_nil _ _ _ _) (World.ownsRow_nil _ _ _ _) (World.ownsRow_nil _ _ _ _) (fun c hc => ⟨⟨.inl (HRP.out c hc).1, by have := HS.out c (HRP.out c hc).1; have := hkp.1; omega⟩, fun i hi => hi⟩) (fun c hc => by cases hc) (fun c hc => by cases hc) (fun c hc => by cases hc) (fun _ _ h => h.elim) (fun _ _ _ _ h => h.elim) (fun i hi => by cases hi), fun c hc => hc⟩, hkp, hbl⟩
      · injection hv with hv1 hv2 hv3
        subst hv1 hv3
        have hSb : S b := (HLP.out b rfl).1
        have HBK := Lib.hid (And.intro hnc (And.intro hcm (And.intro hcz hSb)))
        have hrow8 := row_of (D := .mk k t n r l a dm ds) ((HB8.out.block _ (Array.getElem?_eq_some_iff.1 hblk).1).trans hblk) hnc hcz htk (fun i h => (HIN.out i h).under HB8.out) HDIS.out (HLP.out b rfl).2 HSUB.out fun c hc => Nat.lt_of_lt_of_le (HS.out c hc) HB8.out.size
        have HR8 := Lib.hid hrow8
        have HBS : Hid (b < w.heap.size) := Lib.hid (HS.out b hSb)
        clear hge hblk hnc hcm hcz htk hrow8 hSb
        go_loopw [21] (fun v wr => ∃ (j : Nat) (cb : Array Value) (T : Nat → Sx) (Fc : Nat → Nat → Prop), v = .int .i64 (j : Nat) ∧ j ≤ l.length ∧ cb.size = ac * 8 ∧ (∀ (i : Nat) (h : i < l.length), T i = if i < j then fltS J.1 J.2.1 (l[i]'h) else l[i]'h) ∧ (∀ i c, Fc i c → Fc0 i c ∨ (w8.heap.size ≤ c ∧ i < j)) ∧ RowO wr b cb T l.length Fc ∧ FlI w w8 S g cs (.slice lo r.length lc) r wr ∧ BxW w1 q (.slice jo J.1.length jc) (.slice ko J.2.1.length kc) J.1 J.2.1 wr) (fun v _ => l.length - (intOf v).toNat)
        case atStart => exact ⟨0, cur, _, Fc0, rfl, Nat.zero_le _, HBK.out.2.2.1, fun i h => (lfn_at h).trans (if_neg (by omega)).symm, fun i c h => .inl h, HR8.out, HFI.out, HBX.out⟩
        case round =>
          obtain ⟨j, cb, T, Fc, rfl, hj, hcz, hT, hFc, hro, hfi, hbx⟩ := hrel
          have hmx := HMX.out
          have HFI := Lib.hid hfi
          have HRO := Lib.hid hro
          have HBX := Lib.hid hbx
          have HST := Lib.hid (And.intro hcz (And.intro hT hFc))
          clear hcz hT hFc hro hfi hbx
          obtain ⟨c0, c1, c2, c3, c4, c5, c6, c7⟩ := cells_of HFI.out.gx HCS.out
          obtain ⟨d0, d1, _, _⟩ := rowp2d HBX.out.qx
          by_cases hjl : j < l.length
          · have hii : ((j : Nat) : Int) < ((l.length : Nat) : Int) := by omega
            go_upto_region 5 with fail
            go_still_tail 7, (by kernel_rfl)
            change wpList _ _ _ _ _ wr.drew
            clear c0 c1 c2 c3 c4 c5 c6 c7 d0 d1
            have HFD : Hid (FlI w w8 S g cs (.slice lo r.length lc) r wr.drew) := Lib.hid ⟨HFI.out.gx, HFI.out.lr, ⟨HFI.out.keep.1, HFI.out.keep.2⟩, fun B h1 h2 h3 => (HFI.out.bel B h1 h2 h3).drew, HFI.out.ge⟩
            have HRD : Hid (RowO wr.drew b cb T l.length Fc) := Lib.hid (HRO.out.move ⟨Nat.le_refl _, fun _ _ _ => rfl⟩)
            have HBD : Hid (BxW w1 q (.slice jo J.1.length jc) (.slice ko J.2.1.length kc) J.1 J.2.1 wr.drew) := Lib.hid ⟨HBX.out.qx, HBX.out.mr, HBX.out.sr⟩
            clear HFI HRO HBX
            generalize wr.drew = W2 at *
            go_wp2_with fail
            have hTj : T j = l[j]'hjl := (HST.out.2.1 j hjl).trans (if_neg (by omega))
            have hej := HRD.out.each j hjl
            rw [hTj] at hej
            have hw1 := HW1.out
            have hF0 : ∀ c, Fc j c → S c := fun c hc => by
              rcases HST.out.2.2 j c hc with h | h
              · exact HSUB.out j c h
              · exact absurd h.2 (by omega)
            refine (HIH.out (l[j]'hjl) (HSZ.out j hjl) _ (Fc j) b (j * 8) cb _ J.1 J.2.1 W2 hej (HRD.out.lt j) (HRD.out.off j) HRD.out.blk (by rw [HST.out.1]; have := HBK.out.1; omega) rfl HBD.out.wr).mono ?_
            rintro e w9 ⟨rfl, ⟨cb', us', Q, hblk', hsz', hout', hus', hso', hQ'⟩, hkeep', hbel'⟩
            have HF2 := Lib.hid (HFD.out.step hF0 HBK.out.2.2.2 HG.out (fun c hc => ⟨fun h => by
              rcases HST.out.2.2 j c h with h2 | h2
              · exact (HRP.out c hc).2 j h2
              · have := HS.out c (HRP.out c hc).1; omega, fun e => by
              have h1 := HFD.out.lr
              exact own_farT h1 HRD.out.blk (by decide) c hc e⟩) hkeep' hbel')
            have HB2 := Lib.hid (HBD.out.step hkeep' HQ.out fun c h1 _ => ⟨fun h => by have := HS.out c (hF0 c h); omega, by have := HBS.out; omega⟩)
            have HR2 := Lib.hid (HRD.out.step (n' := l.length) (j := j) (d := fltS J.1 J.2.1 (l[j]'hjl)) (Q := Q) hblk' (by rw [hsz', HST.out.1]; have := HBK.out.1; omega) (fun i hi _ => hi) (fun i hi hne => drop8_eq fun p h1 h2 => hout' p (by omega)) (by rw [hus']; exact hso') hQ' hkeep')
            have HQ2 : Hid (∀ c, Q c → Fc j c ∨ w8.heap.size ≤ c) := Lib.hid fun c hc => by
              rcases (hQ' c hc).1 with h | h
              · exact .inl h
              · exact .inr (Nat.le_trans HFD.out.ge h)
            have HZ2 : Hid (cb'.size = ac * 8) := Lib.hid (hsz'.trans HST.out.1)
            clear hblk' hsz' hout' hus' hso' hQ' hkeep' hbel' hej hTj hF0 hw1
            go_wp2_with fail
            go_roundw
            case measure => simp only [intOf]; omega
            case rel =>
              refine ⟨j + 1, cb', _, _, by go_num, by omega, HZ2.out, fun i h => ?_, fun i c hc => ?_, HR2.out, HF2.out, HB2.out⟩
              · by_cases hij : i = j
                · subst hij; rw [updT_self, if_pos (by omega)]
                · rw [updT_ne hij, HST.out.2.1 i h]
                  by_cases h3 : i < j
                  · rw [if_pos h3, if_pos (by omega)]
                  · rw [if_neg h3, if_neg (by omega)]
              · by_cases hij : i = j
                · subst hij
                  rw [updP_self] at hc
                  rcases HQ2.out c hc with h | h
                  · rcases HST.out.2.2 i c h with h2 | h2
                    · exact .inl h2
                    · exact absurd h2.2 (by omega)
                  · exact .inr ⟨h, by omega⟩
                · rw [updP_ne hij] at hc
                  rcases HST.out.2.2 i c hc with h2 | h2
                  · exact .inl h2
                  · exact .inr ⟨h2.1, by omega⟩
          · obtain rfl : j = l.length := by omega
            clear HR8
            by_cases hk4 : k = 4
            · have hkn : (k != 4) = false := by rw [hk4]; rfl
              have HK4 := Lib.hid hk4
              clear hk4
              go_wp2_with fail
              clear c0 c1 c2 c3 c4 c5 c6 c7 d0 d1 hkn
              refine (wearO_any g off cs jo J.1.length jc ko J.2.1.length kc wr HFI.out.gx HOF.out).mono ?_
              rintro e w9 ⟨rfl, ⟨cs', hgx', hwc⟩, hk9, hb9⟩
              have HE := Lib.hid (And.intro hgx' (And.intro hwc (And.intro hk9 hb9)))
              clear hgx' hwc hk9 hb9
              go_wp2_with fail
              go_end0
              obtain rfl : M3 = J.1 := HM3.out.symm.trans (if_pos HK4.out)
              obtain rfl : S3 = J.2.1 := HS3.out.symm.trans (if_pos HK4.out)
              have hw1 := HW1.out
              have hgl := (Array.getElem?_eq_some_iff.1 HGB.out).1
              have hge := HFI.out.ge
              have hk9 := HE.out.2.2.1
              have hs9 := hk9.1
              have hkw : Keeps (fun c => c ≠ g) wr w9 := hk9
              have hlr := ownsRow_keep HFI.out.lr hkw fun c hc => (fun e => HG.out (e ▸ (HRP.out c hc).1))
              have hmr := own_low (ownsRow_keep HBX.out.mr hkw fun c hc => by have := (HBX.out.mr.lt c hc).1; omega) (Nat.zero_le _)
              have hsr := own_low (ownsRow_keep HBX.out.sr hkw fun c hc => by have := (HBX.out.sr.lt c hc).1; omega) (Nat.zero_le _)
              have hro := HRO.out.move (hkw.mono fun c _ hc => by
                rcases hc with rfl | ⟨i, hi⟩
                · intro e; exact HG.out (e ▸ HBK.out.2.2.2)
                · rcases HST.out.2.2 i c hi with h | h
                  · intro e; exact HG.out (e ▸ HSUB.out i c h)
                  · omega)
              have hown := hro.owns HBK.out.1 HBK.out.2.1 HST.out.1
              have hkp : Keeps (fun c => ¬ S c ∧ c ≠ g) w w9 := ⟨Nat.le_trans HFI.out.keep.1 hkw.1, fun c hc h => (hkw.2 c (Nat.lt_of_lt_of_le hc HFI.out.keep.1) h.2).trans (HFI.out.keep.2 c hc h)⟩
              have hbl : ∀ B, B ≤ g → B ≤ w.heap.size → (∀ b, S b → B ≤ b) → Below B w w9 := fun B h1 h2 h3 => (HFI.out.bel B h1 h2 h3).trans (HE.out.2.2.2 B h1 (Nat.le_trans h2 HFI.out.keep.1))
              refine ⟨rfl, ⟨cs', _, fun c => (S c ∨ w.heap.size ≤ c) ∧ c < w9.heap.size, HE.out.1, HE.out.2.1.1, fun i hi => HE.out.2.1.2.1 i (by omega) (by omega), wear_cells HCS.out HE.out.2.1, .mk (Fc := Fc) HTL.out.1 HTL.out.2 hlr (by rw [List.length_map]; exact hown) hmr hsr (fun c hc => ⟨⟨.inl (HRP.out c hc).1, by have := HS.out c (HRP.out c hc).1; have := hkp.1; omega⟩, fun i hi => by
                  rcases HST.out.2.2 i c hi with h | h
                  · exact (HRP.out c hc).2 i h
                  · have := HS.out c (HRP.out c hc).1; omega⟩) (fun c hc => ⟨⟨.inr (by have := (HBX.out.mr.lt c hc).1; omega), by have := (HBX.out.mr.lt c hc).2; have := hkw.1; omega⟩, fun i hi => by
                  have h1 := HBX.out.mr.lt c hc
                  rcases HST.out.2.2 i c hi with h | h
                  · have := HS.out c (HSUB.out i c h); omega
                  · have := HRB.out c hc; omega⟩) (fun c hc => ⟨⟨.inr (by have := (HBX.out.sr.lt c hc).1; omega), by have := (HBX.out.sr.lt c hc).2; have := hkw.1; omega⟩, fun i hi => by
                  have h1 := HBX.out.sr.lt c hc
                  rcases HST.out.2.2 i c hi with h | h
                  · have := HS.out c (HSUB.out i c h); omega
                  · have := HRC.out c hc; omega⟩) (fun c hc => ?_) (fun i c hc => ⟨?_, hro.lt i c hc⟩) hro.dis (fun i hi => ?_), fun c hc => hc⟩, hkp, hbl⟩
              · simp only [Value.ownBlock, Option.some.injEq] at hc
                subst hc
                exact ⟨⟨.inl HBK.out.2.2.2, by have := HBS.out; have := hkp.1; omega⟩, hro.off⟩
              · rcases HST.out.2.2 i c hc with h | h
                · exact .inl (HSUB.out i c h)
                · exact .inr (by omega)
              · have hi2 : i < l.length := by simpa using hi
                have h3 := hro.each i hi2
                rw [HST.out.2.1 i hi2, if_pos hi2] at h3
                rw [List.getElem_map, take_drop8 hi2]
                exact h3
            · have hkn : (k != 4) = true := by rw [bne_iff_ne]; exact hk4
              have HK4 := Lib.hid hk4
              clear hk4
              obtain ⟨_, _, z0, z1⟩ := rowp2d HBX.out.qx
              go_upto_region 9 with fail
              have hqx2 := putp2d HBX.out.qx (.slice none 0 0) (.slice none 0 0)
              have hkq : Keeps (fun c => c ≠ q) wr ((wr.setCell ⟨q, 0, none⟩ (.slice none 0 0)).setCell ⟨q, 1, none⟩ (.slice none 0 0)) := ((Keeps.refl (fun c => c ≠ q) wr).set (p := ⟨q, 0, none⟩) (fun h => h rfl) _).set (p := ⟨q, 1, none⟩) (fun h => h rfl) _
              have hbq : ∀ B, B ≤ q → Below B wr ((wr.setCell ⟨q, 0, none⟩ (.slice none 0 0)).setCell ⟨q, 1, none⟩ (.slice none 0 0)) := fun B h => below_fill2 (Below.refl B wr) h _ _
              clear c0 c1 c2 c3 c4 c5 c6 c7 d0 d1 hkn z0 z1
              generalize (wr.setCell ⟨q, 0, none⟩ (.slice none 0 0)).setCell ⟨q, 1, none⟩ (.slice none 0 0) = wq at *
              have hw1 := HW1.out
              have hq1 := HQ.out
              have hgl := (Array.getElem?_eq_some_iff.1 HGB.out).1
              have HGQ := Lib.hid ((hkq.2 _ (Array.getElem?_eq_some_iff.1 HFI.out.gx).1 (by omega)).trans HFI.out.gx)
              have HKQ := Lib.hid hkq
              have HBQ := Lib.hid hbq
              obtain ⟨d0, d1, _, _⟩ := rowp2d hqx2
              clear hqx2 hkq hbq
              go_wp2_with fail
              clear d0 d1
              refine (wearO_any g off cs none 0 0 none 0 0 wq HGQ.out HOF.out).mono ?_
              rintro e w9 ⟨rfl, ⟨cs', hgx', hwc⟩, hk9, hb9⟩
              have HE := Lib.hid (And.intro hgx' (And.intro hwc (And.intro hk9 hb9)))
              clear hgx' hwc hk9 hb9
              go_wp2_with fail
              go_end0
              obtain rfl : M3 = [] := HM3.out.symm.trans (if_neg HK4.out)
              obtain rfl : S3 = [] := HS3.out.symm.trans (if_neg HK4.out)
              have hw1 := HW1.out
              have hgl := (Array.getElem?_eq_some_iff.1 HGB.out).1
              have hge := HFI.out.ge
              have hk9 := HE.out.2.2.1
              have hs9 := hk9.1
              have hkw : Keeps (fun c => c ≠ g ∧ c ≠ q) wr w9 := (HKQ.out.mono fun c _ h => h.2).trans (hk9.mono fun c _ h => h.1)
              have hsq := HKQ.out.1
              have hlr := ownsRow_keep HFI.out.lr hkw fun c hc => ⟨(fun e => HG.out (e ▸ (HRP.out c hc).1)), (fun e => by have := HS.out c (HRP.out c hc).1; have := HQ.out; omega)⟩
              have hro := HRO.out.move (hkw.mono fun c _ hc => by
                have hq1 := HQ.out
                rcases hc with rfl | ⟨i, hi⟩
                · exact ⟨fun e => HG.out (e ▸ HBK.out.2.2.2), fun e => by have := HBS.out; omega⟩
                · rcases HST.out.2.2 i c hi with h | h
                  · exact ⟨fun e => HG.out (e ▸ HSUB.out i c h), fun e => by have := HS.out c (HSUB.out i c h); omega⟩
                  · exact ⟨by omega, fun e => by have := HQL.out; omega⟩)
              have hown := hro.owns HBK.out.1 HBK.out.2.1 HST.out.1
              have hkp : Keeps (fun c => ¬ S c ∧ c ≠ g) w w9 := ⟨Nat.le_trans HFI.out.keep.1 hkw.1, fun c hc h => (hkw.2 c (Nat.lt_of_lt_of_le hc HFI.out.keep.1) ⟨h.2, by have := HQ.out; omega⟩).trans (HFI.out.keep.2 c hc h)⟩
              have hbl : ∀ B, B ≤ g → B ≤ w.heap.size → (∀ b, S b → B ≤ b) → Below B w w9 := fun B h1 h2 h3 => ((HFI.out.bel B h1 h2 h3).trans (HBQ.out B (by have := HQ.out; omega))).trans (HE.out.2.2.2 B h1 (Nat.le_trans h2 (Nat.le_trans HFI.out.keep.1 hsq)))
              refine ⟨rfl, ⟨cs', _, fun c => (S c ∨ w.heap.size ≤ c) ∧ c < w9.heap.size, HE.out.1, HE.out.2.1.1, fun i hi => HE.out.2.1.2.1 i (by omega) (by omega), wear_cells HCS.out HE.out.2.1, .mk (Fc := Fc) HTL.out.1 HTL.out.2 hlr (by rw [List.length_map]; exact hown) (World.ownsRow_nil _ _ _ _) (World.ownsRow_nil _ _ _ _) (fun c hc => ⟨⟨.inl (HRP.out c hc).1, by have := HS.out c (HRP.out c hc).1; have := hkp.1; omega⟩, fun i hi => by
                  rcases HST.out.2.2 i c hi with h | h
                  · exact (HRP.out c hc).2 i h
                  · have := HS.out c (HRP.out c hc).1; omega⟩) (fun c hc => by cases hc) (fun c hc => by cases hc) (fun c hc => ?_) (fun i c hc => ⟨?_, hro.lt i c hc⟩) hro.dis (fun i hi => ?_), fun c hc => hc⟩, hkp, hbl⟩
              · simp only [Value.ownBlock, Option.some.injEq] at hc
                subst hc
                exact ⟨⟨.inl HBK.out.2.2.2, by have := HBS.out; have := hkp.1; omega⟩, hro.off⟩
              · rcases HST.out.2.2 i c hc with h | h
                · exact .inl (HSUB.out i c h)
                · exact .inr (by omega)
              · have hi2 : i < l.length := by simpa using hi
                have h3 := hro.each i hi2
                rw [HST.out.2.1 i hi2, if_pos hi2] at h3
                rw [List.getElem_map, take_drop8 hi2]
                exact h3
end Go.Proofs.YtbfcbicbeagjkaaDoor
