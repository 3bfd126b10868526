/- stx.worn, inner, joins, Sound, Ident: which pieces may be. -/
import Derived.Test.YtbfcbicbeagjkaaDoorSxSnd
import Derived.Test.YtbfcbicbeagjkaaDoorWpJoin
import Derived.Test.YtbfcbicbeagjkaaDoorWpSame
namespace Go.Proofs.YtbfcbicbeagjkaaDoor
open Go.RowKit

set_option maxRecDepth 100000 in
set_option maxHeartbeats 1000000 in
theorem worn_any (kx : Int) (tx : ByteArray) (nx : Bool) (xo : Option Addr) (xn xc : Nat) (yo : Option Addr) (yn yc : Nat) (ax : Int) (po : Option Addr) (pn pc : Nat) (qo : Option Addr) (qn qc : Nat) (w : World) :
    Calls Tryd.prog 18 #[.agg #[.int .i64 kx, .string tx, .bool nx, .slice xo xn xc, .slice yo yn yc, .int .i64 ax, .slice po pn pc, .slice qo qn qc]] w fun e w' => e = .returned (.agg #[.slice po pn pc, .slice qo qn qc]) ∧ Below w.heap.size w w' := by
  have hn := @newsd2 w (.cells #[.int .i64 kx, .string tx, .bool nx, .slice xo xn xc, .slice yo yn yc, .int .i64 ax, .slice po pn pc, .slice qo qn qc] 28) (.cells #[.slice none 0 0, .slice none 0 0] 30)
  have hb := below2 w (.cells #[.int .i64 kx, .string tx, .bool nx, .slice xo xn xc, .slice yo yn yc, .int .i64 ax, .slice po pn pc, .slice qo qn qc] 28) (.cells #[.slice none 0 0, .slice none 0 0] 30)
  go_enter Tryd.func18, Tryd.ntmps18
  go_upto_region 1 with fail
  generalize (w.alloc (.cells #[.int .i64 kx, .string tx, .bool nx, .slice xo xn xc, .slice yo yn yc, .int .i64 ax, .slice po pn pc, .slice qo qn qc] 28)).alloc (.cells #[.slice none 0 0, .slice none 0 0] 30) = w1 at *
  obtain ⟨c0, c1, c2, c3, c4, c5, c6, c7⟩ := rowS8 hn.1
  obtain ⟨d0, d1, z0, z1⟩ := rowp2 hn.2
  obtain ⟨p0, p1, _, _⟩ := rowp2 (putp2 hn.2 (.slice po pn pc) (.slice qo qn qc))
  have HB := Lib.hid ((hb.setCell (p := ⟨w.heap.size + 1, 0, none⟩) (by simp) (.slice po pn pc)).setCell (p := ⟨w.heap.size + 1, 1, none⟩) (by simp) (.slice qo qn qc))
  clear hb hn
  go_wp2_with fail
  refine bodyPost_ret (v := .agg #[.slice po pn pc, .slice qo qn qc]) (by simp [results, Tryd.results18, go_sem, p0, p1]) rfl ?_
  exact ⟨rfl, HB.out⟩

def isJn (r : List Int × List Int × Int) : Value → World → Prop := fun v W => ∃ x, v = .tuple #[x, .int .i64 r.2.2] ∧ Wr W x r.1 r.2.1
theorem isJn_stays (r : List Int × List Int × Int) : Stays (isJn r) := fun _ _ _ hb ⟨x, h1, h2⟩ => ⟨x, h1, h2.below hb⟩
theorem sameZ_eq (xs ys : List Int) : (sameZ xs [] && sameZ ys []) = decide (xs = [] ∧ ys = []) := by unfold sameZ; simp

set_option maxRecDepth 100000 in
set_option maxHeartbeats 4000000 in
/-- stx.inner. -/
theorem inner_any (x : Value) (m s : List Int) (D : Sx) (us : List Value) (w : World) (hx : Wr w x m s) (hd : SLay w D us) :
    Calls Tryd.prog 43 #[x, .agg us.toArray] w (JPost w (innA m s D.m D.s)) := by
  obtain ⟨kx, tx, nx, xo, xn, xc, yo, yn, yc, ax, po, pn, pc, qo, qn, qc, rfl⟩ := sx_shapes hd
  have HXW := Lib.hid hx
  have HDW : Hid (Wr w (.agg #[.slice po pn pc, .slice qo qn qc]) D.m D.s) := Lib.hid (by
    obtain ⟨lv, av, mv, sv, vs, he, _, _, _, _, hm, hs, _⟩ := hd.open'
    simp only [List.cons.injEq, and_true] at he
    obtain ⟨_, _, _, _, _, _, e6, e7⟩ := he
    rw [e6, e7]
    exact ⟨_, _, rfl, hm, hs⟩)
  obtain ⟨mv, sv, rfl, hm, hs⟩ := hx.cells
  obtain ⟨_, ma, mc, hmv, _, _⟩ := hm.cases
  obtain ⟨_, sa, sc, hsv, _, _⟩ := hs.cases
  generalize m.length = ml at hmv
  generalize s.length = sl at hsv
  subst hmv hsv
  clear hx hm hs hd
  generalize D.m = dm at *
  generalize D.s = ds at *
  have HB1 := Lib.hid (below3 w (.cells #[.slice ma ml mc, .slice sa sl sc] 30) (.cells #[.int .i64 kx, .string tx, .bool nx, .slice xo xn xc, .slice yo yn yc, .int .i64 ax, .slice po pn pc, .slice qo qn qc] 28) (.cells #[.slice none 0 0, .slice none 0 0] 30))
  have HN := Lib.hid (@newsp3 w (.cells #[.slice ma ml mc, .slice sa sl sc] 30) (.cells #[.int .i64 kx, .string tx, .bool nx, .slice xo xn xc, .slice yo yn yc, .int .i64 ax, .slice po pn pc, .slice qo qn qc] 28) (.cells #[.slice none 0 0, .slice none 0 0] 30))
  show Calls Tryd.prog 43 #[.agg #[.slice ma ml mc, .slice sa sl sc], .agg #[.int .i64 kx, .string tx, .bool nx, .slice xo xn xc, .slice yo yn yc, .int .i64 ax, .slice po pn pc, .slice qo qn qc]] w _
  go_enter Tryd.func43, Tryd.ntmps43
  go_upto_region 1 with fail
  generalize ((w.alloc (.cells #[.slice ma ml mc, .slice sa sl sc] 30)).alloc (.cells #[.int .i64 kx, .string tx, .bool nx, .slice xo xn xc, .slice yo yn yc, .int .i64 ax, .slice po pn pc, .slice qo qn qc] 28)).alloc (.cells #[.slice none 0 0, .slice none 0 0] 30) = w0 at *
  obtain ⟨c0, c1, c2, c3, c4, c5, c6, c7⟩ := rowS8 HN.out.2.1
  go_wp2_with fail
  refine (worn_any _ _ _ _ _ _ _ _ _ _ _ _ _ _ _ _ _).mono ?_
  rintro e w2 ⟨rfl, hb2⟩
  have HB2 := Lib.hid (HB1.out.trans (hb2.mono HB1.out.size))
  have HM0 := Lib.hid ((hb2.block _ (Array.getElem?_eq_some_iff.1 HN.out.1).1).trans HN.out.1)
  have HM1 := Lib.hid ((hb2.block _ (Array.getElem?_eq_some_iff.1 HN.out.2.1).1).trans HN.out.2.1)
  have HM2 := Lib.hid ((hb2.block _ (Array.getElem?_eq_some_iff.1 HN.out.2.2).1).trans HN.out.2.2)
  clear hb2 HB1 HN c0 c1 c2 c3 c4 c5 c6 c7
  go_wp2_with fail
  refine (wsame_any _ (.agg #[.slice none 0 0, .slice none 0 0]) dm ds [] [] w2 (HDW.out.below HB2.out) ⟨_, _, rfl, Iz.nil _, Iz.nil _⟩).mono ?_
  rintro e w1 ⟨rfl, hb1⟩
  have HB1 := Lib.hid (HB2.out.trans (hb1.mono HB2.out.size))
  have HN0 := Lib.hid ((hb1.block _ (Array.getElem?_eq_some_iff.1 HM0.out).1).trans HM0.out)
  have HN1 := Lib.hid ((hb1.block _ (Array.getElem?_eq_some_iff.1 HM1.out).1).trans HM1.out)
  have HN2 := Lib.hid ((hb1.block _ (Array.getElem?_eq_some_iff.1 HM2.out).1).trans HM2.out)
  have HLT := Lib.hid (And.intro (Array.getElem?_eq_some_iff.1 HN0.out).1 (And.intro (Array.getElem?_eq_some_iff.1 HN1.out).1 (Array.getElem?_eq_some_iff.1 HN2.out).1))
  clear hb1 HB2 HM0 HM1 HM2
  rw [sameZ_eq]
  by_cases he : dm = [] ∧ ds = []
  · rw [decide_eq_true he]
    have HI : Hid (innA m s dm ds = (m, s, 0)) := Lib.hid (by unfold innA; rw [if_pos he])
    clear he
    obtain ⟨c0, c1, _, _⟩ := rowp2 HN0.out
    obtain ⟨d0, d1, z0, z1⟩ := rowp2 HN2.out
    obtain ⟨p0, p1, _, _⟩ := rowp2 (putp2 HN2.out (.slice ma ml mc) (.slice sa sl sc))
    have HF := Lib.hid (And.intro ((HB1.out.setCell (p := ⟨w.heap.size + 2, 0, none⟩) (by simp) (.slice ma ml mc)).setCell (p := ⟨w.heap.size + 2, 1, none⟩) (by simp) (.slice sa sl sc)) ((HXW.out.below HB1.out).fill HN2.out (.slice ma ml mc) (.slice sa sl sc)))
    go_wp2_with fail
    refine bodyPost_ret (v := .tuple #[.agg #[.slice ma ml mc, .slice sa sl sc], .int .i64 0]) (by simp [results, Tryd.results43, go_sem, p0, p1]) rfl ?_
    rw [HI.out]
    exact ⟨⟨_, rfl, HF.out.2⟩, HF.out.1⟩
  rw [decide_eq_false he]
  have HI : Hid (innA m s dm ds = wjA m s dm ds) := Lib.hid (by unfold innA; rw [if_neg he])
  clear he
  obtain ⟨r, HR⟩ : ∃ r, Hid (wjA m s dm ds = r) := ⟨_, Lib.hid rfl⟩
  go_wp2_with fail
  refine wp_region_late 6 4 4 15 15 (psi [isV (.agg #[.slice ma ml mc, .slice sa sl sc]), isV (.agg #[.int .i64 kx, .string tx, .bool nx, .slice xo xn xc, .slice yo yn yc, .int .i64 ax, .slice po pn pc, .slice qo qn qc]), isV (.agg #[.slice po pn pc, .slice qo qn qc]), isJn r, isWr r.1 r.2.1, isV (.int .i64 r.2.2), nothing, isV (.int .i64 r.2.2)]) (fun W => Below w1.heap.size w1 W) (Fills (w.heap.size + 2)) (by kernel_rfl) (Below.refl _ _).drew (psi_mono ?_) (by kernel_rfl) (by kernel_rfl) (by kernel_rfl) ?_ ?_
  · intro pq hp
    simp only [List.mem_cons, List.not_mem_nil, or_false] at hp
    (repeat' rcases hp with rfl | hp) <;> first | exact isV_stays _ | exact nothing_stays | (subst hp; first | exact isV_stays _ | exact nothing_stays) | exact isJn_stays _ | exact isWr_stays _ _ | (subst hp; exact isJn_stays _) | (subst hp; exact isWr_stays _ _)
  · refine AllOps.cons ?_ ?_
    · refine OpL.early (by kernel_rfl) (by kernel_rfl) fun ab W hC hB hdep => ?_
      refine .inl ⟨rfl, ?_⟩
      have b0 : ab.tmps.getD 2 undef = .pointer (some ⟨w.heap.size, 0, none⟩) := hB.off 2 (by kernel_rfl)
      obtain ⟨c0, c1, _, _⟩ := rowp2 ((hC.block _ HLT.out.1).trans HN0.out)
      clear hB hdep
      refine goes_value (v := .agg #[.slice ma ml mc, .slice sa sl sc]) ?_ hC rfl
      simp only [execOp, Act.eval, b0]
      go_simp
    refine AllOps.cons ?_ ?_
    · refine OpL.early (by kernel_rfl) (by kernel_rfl) fun ab W hC hB hdep => ?_
      refine .inl ⟨rfl, ?_⟩
      have b0 : ab.tmps.getD 3 undef = .pointer (some ⟨w.heap.size + 1, 0, none⟩) := hB.off 3 (by kernel_rfl)
      obtain ⟨c0, c1, c2, c3, c4, c5, c6, c7⟩ := rowS8 ((hC.block _ HLT.out.2.1).trans HN1.out)
      clear hB hdep
      refine goes_value (v := .agg #[.int .i64 kx, .string tx, .bool nx, .slice xo xn xc, .slice yo yn yc, .int .i64 ax, .slice po pn pc, .slice qo qn qc]) ?_ hC rfl
      simp only [execOp, Act.eval, b0]
      go_simp
    refine AllOps.cons ?_ ?_
    · refine OpL.early (by kernel_rfl) (by kernel_rfl) fun ab W hC hB hdep => ?_
      refine .inl ⟨rfl, ?_⟩
      obtain ⟨x0, (q0 : (isV (.agg #[.int .i64 kx, .string tx, .bool nx, .slice xo xn xc, .slice yo yn yc, .int .i64 ax, .slice po pn pc, .slice qo qn qc])) x0 W), e0⟩ := hdep 1 12 (by kernel_rfl)
      obtain rfl : x0 = .agg #[.int .i64 kx, .string tx, .bool nx, .slice xo xn xc, .slice yo yn yc, .int .i64 ax, .slice po pn pc, .slice qo qn qc] := q0
      clear hB hdep
      refine goes_call (f := 18) (args := #[.agg #[.int .i64 kx, .string tx, .bool nx, .slice xo xn xc, .slice yo yn yc, .int .i64 ax, .slice po pn pc, .slice qo qn qc]]) ?_ ?_
      · simp only [execOp]
        go_simp
      · exact (worn_any _ _ _ _ _ _ _ _ _ _ _ _ _ _ _ _ W).mono fun e w7 ⟨he, hb⟩ => ⟨_, he, hC.trans (hb.mono hC.size), hb, rfl⟩
    refine AllOps.cons ?_ ?_
    · refine OpL.early (by kernel_rfl) (by kernel_rfl) fun ab W hC hB hdep => ?_
      refine .inl ⟨rfl, ?_⟩
      obtain ⟨x0, (q0 : (isV (.agg #[.slice ma ml mc, .slice sa sl sc])) x0 W), e0⟩ := hdep 0 11 (by kernel_rfl)
      obtain rfl : x0 = .agg #[.slice ma ml mc, .slice sa sl sc] := q0
      obtain ⟨x1, (q1 : (isV (.agg #[.slice po pn pc, .slice qo qn qc])) x1 W), e1⟩ := hdep 2 13 (by kernel_rfl)
      obtain rfl : x1 = .agg #[.slice po pn pc, .slice qo qn qc] := q1
      clear hB hdep
      refine goes_call (f := 17) (args := #[.agg #[.slice ma ml mc, .slice sa sl sc], .agg #[.slice po pn pc, .slice qo qn qc]]) ?_ ?_
      · simp only [execOp]
        go_simp
      · exact (wjoin_any _ _ m s dm ds W (HXW.out.below (HB1.out.trans (hC.mono HB1.out.size))) (HDW.out.below (HB1.out.trans (hC.mono HB1.out.size)))).mono fun e w7 ⟨⟨x7, he, hw7⟩, hb⟩ => by rw [HR.out] at he hw7; exact ⟨_, he, hC.trans (hb.mono hC.size), hb, x7, rfl, hw7⟩
    refine AllOps.cons ?_ ?_
    · refine OpL.early (by kernel_rfl) (by kernel_rfl) fun ab W hC hB hdep => ?_
      refine .inl ⟨rfl, ?_⟩
      obtain ⟨x0, (q0 : (isJn r) x0 W), e0⟩ := hdep 3 14 (by kernel_rfl)
      obtain ⟨_, rfl, hw0⟩ := q0
      obtain ⟨u0, v0, rfl, hu0, hv0⟩ := Wr.cells hw0
      obtain ⟨_, uo0, uc0, rfl, _, _⟩ := hu0.cases
      obtain ⟨_, vo0, vc0, rfl, _, _⟩ := hv0.cases
      clear hB hdep
      refine goes_value (v := .agg #[.slice uo0 r.1.length uc0, .slice vo0 r.2.1.length vc0]) ?_ hC hw0
      simp only [execOp, Act.eval, e0]
      go_simp
    refine AllOps.cons ?_ ?_
    · refine OpL.early (by kernel_rfl) (by kernel_rfl) fun ab W hC hB hdep => ?_
      refine .inl ⟨rfl, ?_⟩
      obtain ⟨x0, (q0 : (isJn r) x0 W), e0⟩ := hdep 3 14 (by kernel_rfl)
      obtain ⟨_, rfl, hw0⟩ := q0
      obtain ⟨u0, v0, rfl, hu0, hv0⟩ := Wr.cells hw0
      obtain ⟨_, uo0, uc0, rfl, _, _⟩ := hu0.cases
      obtain ⟨_, vo0, vc0, rfl, _, _⟩ := hv0.cases
      clear hB hdep
      refine goes_value (v := .int .i64 r.2.2) ?_ hC rfl
      simp only [execOp, Act.eval, e0]
      go_simp
    refine AllOps.cons ?_ ?_
    · refine OpL.write (by kernel_rfl) fun vals ab W hC hB hdep => ⟨rfl, ?_⟩
      obtain ⟨(q0 : (isWr r.1 r.2.1) (vals 4) W), e0⟩ := hdep 4 15 (by kernel_rfl)
      generalize vals 4 = x0 at *
      obtain ⟨u0, v0, rfl, hu0, hv0⟩ := Wr.cells q0
      obtain ⟨_, uo0, uc0, rfl, _, _⟩ := hu0.cases
      obtain ⟨_, vo0, vc0, rfl, _, _⟩ := hv0.cases
      have b0 : ab.tmps.getD 4 undef = .pointer (some ⟨w.heap.size + 2, 0, none⟩) := hB.off 4 (by kernel_rfl)
      clear hB hdep
      obtain ⟨_, _, z1, z2⟩ := rowp2 ((hC.block _ HLT.out.2.2).trans HN2.out)
      obtain ⟨c0, c1, _, _⟩ := rowp2 ((hC.block _ HLT.out.2.2).trans HN2.out)
      refine writes_skip (w1 := (W.setCell ⟨w.heap.size + 2, 0, none⟩ _).setCell ⟨w.heap.size + 2, 1, none⟩ _) ?_ ⟨_, _, rfl, rfl⟩
      simp only [execOp, Act.eval, e0, b0]
      go_simp
    refine AllOps.cons ?_ ?_
    · refine OpL.pure (by kernel_rfl) (by kernel_rfl) fun ab W W1 hC hB hdep => .inl ⟨rfl, ?_⟩
      obtain ⟨x0, (q0 : (isV (.int .i64 r.2.2)) x0 W), e0⟩ := hdep 5 16 (by kernel_rfl)
      obtain rfl : x0 = .int .i64 r.2.2 := q0
      clear hB hdep
      refine ⟨.int .i64 r.2.2, ?_, rfl⟩
      simp only [execOp, Act.eval, e0]
      go_simp
    exact trivial
  · intro vals aa W0 w8 hC hFin hB hall
    obtain ⟨(k0 : (isV (.agg #[.slice ma ml mc, .slice sa sl sc])) (vals 0) W0), e0⟩ := hall 0 _ rfl (by decide)
    obtain ⟨(k1 : (isV (.agg #[.int .i64 kx, .string tx, .bool nx, .slice xo xn xc, .slice yo yn yc, .int .i64 ax, .slice po pn pc, .slice qo qn qc])) (vals 1) W0), e1⟩ := hall 1 _ rfl (by decide)
    obtain ⟨(k2 : (isV (.agg #[.slice po pn pc, .slice qo qn qc])) (vals 2) W0), e2⟩ := hall 2 _ rfl (by decide)
    obtain ⟨(k3 : (isJn r) (vals 3) W0), e3⟩ := hall 3 _ rfl (by decide)
    obtain ⟨(k4 : (isWr r.1 r.2.1) (vals 4) W0), e4⟩ := hall 4 _ rfl (by decide)
    obtain ⟨(k5 : (isV (.int .i64 r.2.2)) (vals 5) W0), e5⟩ := hall 5 _ rfl (by decide)
    obtain ⟨(k7 : (isV (.int .i64 r.2.2)) (vals 7) W0), e7⟩ := hall 7 _ rfl (by decide)
    have hv : ∀ pq ∈ [((11 : Nat), (.agg #[.slice ma ml mc, .slice sa sl sc] : Value)), ((12 : Nat), (.agg #[.int .i64 kx, .string tx, .bool nx, .slice xo xn xc, .slice yo yn yc, .int .i64 ax, .slice po pn pc, .slice qo qn qc] : Value)), ((13 : Nat), (.agg #[.slice po pn pc, .slice qo qn qc] : Value)), ((14 : Nat), (vals 3 : Value)), ((15 : Nat), (vals 4 : Value)), ((16 : Nat), (.int .i64 r.2.2 : Value)), ((5 : Nat), (.int .i64 r.2.2 : Value))], aa.tmps.getD pq.1 undef = pq.2 := by
      intro pq hp
      simp only [List.mem_cons, List.not_mem_nil, or_false] at hp
      rcases hp with rfl | rfl | rfl | rfl | rfl | rfl | rfl
      · exact (e0 _ rfl).trans k0
      · exact (e1 _ rfl).trans k1
      · exact (e2 _ rfl).trans k2
      · exact e3 _ rfl
      · exact e4 _ rfl
      · exact (e5 _ rfl).trans k5
      · exact (e7 _ rfl).trans k7
    have hact := act_fold _ hB hv (by kernel_rfl)
    subst hact
    clear hv hall hB e0 e1 e2 e3 e4 e5 e7
    refine (‹∀ (a : Act) (w : World), Code.wp Tryd.prog _ _ a w → _›) _ _ ?_
    simp only [List.foldl, List.setIfInBounds_toArray, List.set_cons_succ, List.set_cons_zero]
    obtain ⟨a, b, hab, rfl⟩ := hFin
    have hwr : Wr W0 (vals 4) r.1 r.2.1 := k4
    rw [hab] at hwr
    rw [hab]
    have hrow := (hC.block _ HLT.out.2.2).trans HN2.out
    have hw2 := hwr.fill hrow a b
    have hbel : Below w.heap.size w ((W0.setCell ⟨w.heap.size + 2, 0, none⟩ a).setCell ⟨w.heap.size + 2, 1, none⟩ b) := ((HB1.out.trans (hC.mono HB1.out.size)).setCell (by simp) _).setCell (by simp) _
    obtain ⟨p0, p1, _, _⟩ := rowp2 (putp2 hrow a b)
    have HF := Lib.hid (And.intro hbel hw2)
    clear hbel hw2 hrow hwr hC k0 k1 k2 k3 k4 k5 k7 hab
    go_wp2_with fail
    refine bodyPost_ret (v := .tuple #[.agg #[a, b], .int .i64 r.2.2]) (by simp [results, Tryd.results43, go_sem, p0, p1]) rfl ?_
    rw [HI.out, HR.out]
    exact ⟨⟨_, rfl, HF.out.2⟩, HF.out.1⟩

/-- A wrap in a box. -/
def JnB (w : World) (b : Nat) (m s : List Int) : Prop := ∃ mv sv, w.heap[b]? = some (.cells #[mv, sv] 30 (0, 0)) ∧ Iz w mv m ∧ Iz w sv s
theorem JnB.below {w w' : World} {b : Nat} {m s : List Int} (h : JnB w b m s) (hb : Below w.heap.size w w') : JnB w' b m s := by
  obtain ⟨mv, sv, h1, h2, h3⟩ := h
  exact ⟨mv, sv, (hb.block b (Array.getElem?_eq_some_iff.1 h1).1).trans h1, h2.below hb, h3.below hb⟩
def JnP (D : Sx) : Prop := ∀ (us : List Value) (w : World) (x : Value) (m s : List Int), SLay w D us → Wr w x m s → Calls Tryd.prog 21 #[.agg us.toArray, x] w fun e w' => e = .returned (.bool (jnsB m s D)) ∧ Below w.heap.size w w'

set_option maxRecDepth 100000 in
set_option maxHeartbeats 4000000 in
theorem joins1_any (D : Sx) (HJ : JnP D) (b : Nat) (m s : List Int) (us : List Value) (w : World) (hd : SLay w D us) (hb : JnB w b m s) :
    Calls Tryd.prog 45 #[.agg us.toArray, .pointer (some ⟨b, 0, none⟩)] w fun e w' => e = .returned (.bool (!jnsB m s D)) ∧ Below w.heap.size w w' := by
  obtain ⟨kx, tx, nx, xo, xn, xc, yo, yn, yc, ax, po, pn, pc, qo, qn, qc, rfl⟩ := sx_shapes hd
  have HB1 := Lib.hid (below1 w (.cells #[.int .i64 kx, .string tx, .bool nx, .slice xo xn xc, .slice yo yn yc, .int .i64 ax, .slice po pn pc, .slice qo qn qc] 28))
  obtain ⟨mv, sv, h1, h2, h3⟩ := hb.below HB1.out
  obtain ⟨_, ma, mc, hmv, _, _⟩ := h2.cases
  obtain ⟨_, sa, sc, hsv, _, _⟩ := h3.cases
  generalize m.length = ml at hmv
  generalize s.length = sl at hsv
  subst hmv hsv
  have HCALL := Lib.hid (HJ _ (w.alloc (.cells #[.int .i64 kx, .string tx, .bool nx, .slice xo xn xc, .slice yo yn yc, .int .i64 ax, .slice po pn pc, .slice qo qn qc] 28)) (.agg #[.slice ma ml mc, .slice sa sl sc]) m s (hd.keep HB1.out) ⟨_, _, rfl, h2, h3⟩)
  obtain ⟨c0, c1, _, _⟩ := rowp2 h1
  clear h1 h2 h3 hb hd HJ
  show Calls Tryd.prog 45 #[.agg #[.int .i64 kx, .string tx, .bool nx, .slice xo xn xc, .slice yo yn yc, .int .i64 ax, .slice po pn pc, .slice qo qn qc], .pointer (some ⟨b, 0, none⟩)] w _
  go_enter Tryd.func45, Tryd.ntmps45
  go_wp2_with fail
  refine HCALL.out.mono ?_
  rintro e w3 ⟨rfl, hb3⟩
  have HB3 := Lib.hid (HB1.out.trans (hb3.mono HB1.out.size))
  clear hb3 c0 c1
  go_wp2_with fail
  go_ret
  exact ⟨rfl, HB3.out⟩

set_option maxRecDepth 100000 in
set_option maxHeartbeats 4000000 in
theorem jnidx_any (b : Nat) (m s : List Int) (l : List Sx) (HS : ∀ (j : Nat) (h : j < l.length), JnP (l[j]'h)) (av : Value) (us : List Value) (w : World) (hrow : RowV w av l.length 8 us) (hin : ∀ (i : Nat) (h : i < l.length), SLay w (l[i]'h) ((us.drop (i * 8)).take 8)) (hj : JnB w b m s) :
    Calls Tryd.prog 55 #[av, .func (.func 45) #[] #[.pointer (some ⟨b, 0, none⟩)]] w fun e w' => ∃ z : Int, e = .returned (.int .i64 z) ∧ (z < 0 → ∀ (j : Nat) (h : j < l.length), jnsB m s (l[j]'h) = true) ∧ (0 ≤ z → ∃ (j : Nat) (h : j < l.length), jnsB m s (l[j]'h) = false) ∧ Below w.heap.size w w' := by
  have HH := Lib.hid HS; clear HS
  have HRW := Lib.hid hrow
  have HIN := Lib.hid hin
  have HJ := Lib.hid hj
  have hmx : l.length ≤ 9223372036854775807 := by have := hrow.2.1; unfold maxLen at this; omega
  have HMX := Lib.hid hmx
  obtain ⟨ao, cap, rfl⟩ : ∃ o c, av = .slice o l.length c := by obtain ⟨_, _, o, c, h, _⟩ := hrow; exact ⟨o, c, h⟩
  clear hrow hin hj
  go_enter Tryd.func55, Tryd.ntmps55
  go_wp2_with fail
  go_loopw [8] (fun v wr => ∃ (i : Nat), i ≤ l.length ∧ v = .int .i64 (i : Nat) ∧ (∀ (j : Nat) (h : j < l.length), j < i → jnsB m s (l[j]'h) = true) ∧ Below w.heap.size w wr) (fun v _ => l.length - (intOf v).toNat)
  case atStart => exact ⟨0, Nat.zero_le _, rfl, fun j _ h => by omega, Below.refl _ _⟩
  case round =>
    obtain ⟨i, hi, rfl, hall, hbl⟩ := hrel
    have hmx := HMX.out
    have HALL := Lib.hid hall
    have HBL := Lib.hid hbl
    clear hall hbl
    by_cases hin : i < l.length
    · have hii : ((i : Nat) : Int) < ((l.length : Nat) : Int) := by omega
      obtain ⟨b', off, cap', v0, v1, v2, v3, v4, v5, v6, v7, hav, _, _, hly, p0, p1, p2, p3, p4, p5, p6, p7⟩ := row_sx (HRW.out.below HBL.out) (fun j h => (HIN.out j h).keep HBL.out) hin
      simp only [Value.slice.injEq, true_and] at hav
      obtain ⟨rfl, rfl⟩ := hav
      have HY := Lib.hid hly
      clear hly
      go_wp2_with fail
      clear p0 p1 p2 p3 p4 p5 p6 p7
      refine (joins1_any (l[i]'hin) (HH.out i hin) b m s [v0, v1, v2, v3, v4, v5, v6, v7] _ HY.out (HJ.out.below HBL.out)).mono ?_
      rintro e w3 ⟨rfl, hb3⟩
      have HB3 := Lib.hid (HBL.out.trans (hb3.mono HBL.out.size))
      clear hb3
      cases hs : jnsB m s (l[i]'hin) with
      | false =>
        have HV := Lib.hid hs
        clear hs
        go_wp2_with fail
        go_ret
        exact ⟨i, rfl, fun h => by omega, fun _ => ⟨i, hin, HV.out⟩, HB3.out⟩
      | true =>
        have HV := Lib.hid hs
        clear hs
        go_wp2_with fail
        go_roundw
        case measure => simp only [intOf]; omega
        case rel =>
          refine ⟨i + 1, by omega, by go_num, fun j h hj => ?_, HB3.out⟩
          rcases Nat.lt_or_eq_of_le (Nat.le_of_lt_succ hj) with h2 | h2
          · exact HALL.out j h h2
          · subst h2; exact HV.out
    · obtain rfl : i = l.length := by omega
      go_wp2_with fail
      go_ret
      exact ⟨-1, rfl, fun _ j h => HALL.out j h h, fun h => by omega, HBL.out⟩
set_option maxRecDepth 100000 in
set_option maxHeartbeats 4000000 in
theorem jncon_any (b : Nat) (m s : List Int) (l : List Sx) (HS : ∀ (j : Nat) (h : j < l.length), JnP (l[j]'h)) (av : Value) (us : List Value) (w : World) (hrow : RowV w av l.length 8 us) (hin : ∀ (i : Nat) (h : i < l.length), SLay w (l[i]'h) ((us.drop (i * 8)).take 8)) (hj : JnB w b m s) :
    Calls Tryd.prog 44 #[av, .func (.func 45) #[] #[.pointer (some ⟨b, 0, none⟩)]] w fun e w' => e = .returned (.bool (!l.all (jnsB m s))) ∧ Below w.heap.size w w' := by
  have HC := Lib.hid (jnidx_any b m s l HS av us w hrow hin hj)
  obtain ⟨ao, cap, rfl⟩ : ∃ o c, av = .slice o l.length c := by obtain ⟨_, _, o, c, h, _⟩ := hrow; exact ⟨o, c, h⟩
  clear HS hrow hin hj
  go_enter Tryd.func44, Tryd.ntmps44
  go_wp2_with fail
  refine HC.out.mono ?_
  rintro e w3 ⟨z, rfl, hno, hyes, hb3⟩
  have HB3 := Lib.hid hb3
  rcases (by omega : 0 ≤ z ∨ z < 0) with hz | hz
  · have hd : decide ((0 : Int) ≤ z) = true := by simpa using hz
    have HV : Hid (l.all (jnsB m s) = false) := Lib.hid (by
      obtain ⟨j, hj, h⟩ := hyes hz
      rw [List.all_eq_false]
      exact ⟨_, List.getElem_mem hj, by rw [h]; decide⟩)
    clear hz hno hyes hb3
    go_wp2_with fail
    go_ret
    exact ⟨ret_bl (by rw [HV.out]; rfl), HB3.out⟩
  · have hd : decide ((0 : Int) ≤ z) = false := by simp; omega
    have HV : Hid (l.all (jnsB m s) = true) := Lib.hid (by
      rw [List.all_eq_true]
      intro x hx
      obtain ⟨j, hj, rfl⟩ := List.mem_iff_getElem.1 hx
      exact hno hz j hj)
    clear hz hno hyes hb3
    go_wp2_with fail
    go_ret
    exact ⟨ret_bl (by rw [HV.out]; rfl), HB3.out⟩

set_option maxRecDepth 100000 in
set_option maxHeartbeats 4000000 in
/-- stx.joins. -/
theorem joins_any : ∀ (k : Nat) (D : Sx), D.sz ≤ k → JnP D := by
  intro k
  induction k with
  | zero => intro D h; have := D.sz_pos; omega
  | succ kk ih =>
    intro D hsz us w x m s hd hx
    have HIH := Lib.hid ih
    clear ih
    have HD := Lib.hid hd
    have HX := Lib.hid hx
    obtain ⟨k, t, n, r, l, a, dm, ds⟩ := D
    have HSZ : Hid (∀ (j : Nat) (h : j < l.length), (l[j]'h).sz ≤ kk) := Lib.hid fun j h => by
      have := Sx.sz_mem (d := .mk k t n r l a dm ds) (x := l[j]) (List.getElem_mem h)
      omega
    obtain ⟨lv, av, mv, sv, xs, rfl, _, _, ⟨_, _, lo, lc, rfl, _⟩, hrow1, ⟨_, _, mo, mc, rfl, _⟩, ⟨_, _, so, sc, rfl, _⟩, hin1⟩ := hd.open'
    simp only [Sx.k, Sx.t, Sx.n, Sx.r, Sx.l, Sx.a, Sx.m, Sx.s] at hrow1 hin1 HD ⊢
    have HRW := Lib.hid hrow1
    have HIN := Lib.hid hin1
    obtain ⟨ao, cv0, rfl⟩ : ∃ o c, av = .slice o l.length c := by obtain ⟨_, _, o, c, h, _⟩ := hrow1; exact ⟨o, c, h⟩
    obtain ⟨wm, ws, rfl, hwm, hws⟩ := hx.cells
    obtain ⟨_, ma, mac, hmv, _, _⟩ := hwm.cases
    obtain ⟨_, sa, sac, hsv, _, _⟩ := hws.cases
    generalize m.length = ml at hmv
    generalize s.length = sl at hsv
    subst hmv hsv
    clear hd hx hrow1 hin1 hsz hwm hws
    have hb1 := below2 w (.cells #[.int .i64 k, .string t, .bool n, .slice lo r.length lc, .slice ao l.length cv0, .int .i64 a, .slice mo dm.length mc, .slice so ds.length sc] 28) (.cells #[.slice ma ml mac, .slice sa sl sac] 30)
    have hn1 := @newsd2 w (.cells #[.int .i64 k, .string t, .bool n, .slice lo r.length lc, .slice ao l.length cv0, .int .i64 a, .slice mo dm.length mc, .slice so ds.length sc] 28) (.cells #[.slice ma ml mac, .slice sa sl sac] 30)
    show Calls Tryd.prog 21 #[.agg #[.int .i64 k, .string t, .bool n, .slice lo r.length lc, .slice ao l.length cv0, .int .i64 a, .slice mo dm.length mc, .slice so ds.length sc], .agg #[.slice ma ml mac, .slice sa sl sac]] w _
    go_enter Tryd.func21, Tryd.ntmps21
    go_upto_region 1 with fail
    generalize (w.alloc (.cells #[.int .i64 k, .string t, .bool n, .slice lo r.length lc, .slice ao l.length cv0, .int .i64 a, .slice mo dm.length mc, .slice so ds.length sc] 28)).alloc (.cells #[.slice ma ml mac, .slice sa sl sac] 30) = w1 at *
    have HB1 := Lib.hid hb1
    have HN1 := Lib.hid hn1
    clear hb1 hn1
    obtain ⟨c0, c1, c2, c3, c4, c5, c6, c7⟩ := rowS8 HN1.out.1
    obtain ⟨d0, d1, _, _⟩ := rowp2 HN1.out.2
    go_wp2_with fail
    refine (inner_any _ m s _ _ w1 (HX.out.below HB1.out) (HD.out.keep HB1.out)).mono ?_
    rintro e w2 ⟨⟨y, rfl, hy⟩, hb2⟩
    simp only [Sx.m, Sx.s] at hy ⊢
    obtain ⟨ym, ys, rfl, hym, hys⟩ := hy.cells
    obtain ⟨_, oa, oc, hov, _, _⟩ := hym.cases
    obtain ⟨_, ta, tc, htv, _, _⟩ := hys.cases
    have HBx := Lib.hid (HB1.out.trans (hb2.mono HB1.out.size))
    have HN2 := Lib.hid ((hb2.block _ (Array.getElem?_eq_some_iff.1 HN1.out.1).1).trans HN1.out.1)
    have HYY := Lib.hid (And.intro hym hys)
    obtain ⟨q, HQ⟩ : ∃ q, Hid (innA m s dm ds = q) := ⟨_, Lib.hid rfl⟩
    rw [HQ.out] at hov htv HYY ⊢
    generalize hol : q.1.length = ol at hov
    generalize htl : q.2.1.length = tl at htv
    subst hov htv
    clear hol htl hy hym hys hb2 c0 c1 c2 c3 c4 c5 c6 c7 d0 d1 HN1
    have hb3 := below1 w2 (.cells #[.slice oa ol oc, .slice ta tl tc] 30)
    have hn3 := heap_alloc_new w2 (.cells #[.slice oa ol oc, .slice ta tl tc] 30)
    go_upto_region 2 with fail
    generalize w2.alloc (.cells #[.slice oa ol oc, .slice ta tl tc] 30) = w3 at *
    have HB3 := Lib.hid (HBx.out.trans (hb3.mono HBx.out.size))
    have HN3 := Lib.hid ((hb3.block _ (Array.getElem?_eq_some_iff.1 HN2.out).1).trans HN2.out)
    have HJ3 : Hid (JnB w3 w2.heap.size q.1 q.2.1) := Lib.hid ⟨_, _, hn3, HYY.out.1.below hb3, HYY.out.2.below hb3⟩
    clear hb3 hn3 HYY HN2 HBx
    have HV : Hid (jnsB m s (.mk k t n r l a dm ds) = (decide (q.2.2 = 0) && l.all (jnsB q.1 q.2.1))) := Lib.hid (by rw [jnsB_mk, HQ.out])
    obtain ⟨q1, q2, q3⟩ := q
    simp only at *
    by_cases h0 : q3 = 0
    · subst h0
      obtain ⟨c0, c1, c2, c3, c4, c5, c6, c7⟩ := rowS8 HN3.out
      go_wp2_with fail
      refine (jncon_any w2.heap.size q1 q2 l (fun j h => HIH.out (l[j]'h) (HSZ.out j h)) _ xs w3 (HRW.out.below HB3.out) (fun j h => (HIN.out j h).keep HB3.out) HJ3.out).mono ?_
      rintro e w4 ⟨rfl, hb4⟩
      have HB4 := Lib.hid (HB3.out.trans (hb4.mono HB3.out.size))
      clear hb4 c0 c1 c2 c3 c4 c5 c6 c7
      go_wp2_with fail
      go_ret
      exact ⟨ret_bl (by rw [HV.out]; simp), HB4.out⟩
    · have hd : (q3 == 0) = false := by rw [beq_eq_false_iff_ne]; exact h0
      have H0 := Lib.hid h0
      clear h0
      go_wp2_with fail
      go_ret
      exact ⟨ret_bl (by rw [HV.out, decide_eq_false H0.out]; rfl), HB3.out⟩

set_option maxRecDepth 100000 in
set_option maxHeartbeats 4000000 in
/-- stx.Sound. -/
theorem xsound_any (D : Sx) (us : List Value) (w : World) (hd : SLay w D us) (hsm : SmS 1100000 D) (ht : Tabs w) :
    Calls Tryd.prog 16 #[.agg us.toArray] w fun e w' => e = .returned (.bool (sndX D)) ∧ Below w.heap.size w w' := by
  obtain ⟨kx, tx, nx, xo, xn, xc, yo, yn, yc, ax, po, pn, pc, qo, qn, qc, rfl⟩ := sx_shapes hd
  have HD := Lib.hid hd
  have HSM := Lib.hid hsm
  have HT := Lib.hid ht
  clear hd hsm ht
  have HB1 := Lib.hid (below1 w (.cells #[.int .i64 kx, .string tx, .bool nx, .slice xo xn xc, .slice yo yn yc, .int .i64 ax, .slice po pn pc, .slice qo qn qc] 28))
  have HN1 := Lib.hid (heap_alloc_new w (.cells #[.int .i64 kx, .string tx, .bool nx, .slice xo xn xc, .slice yo yn yc, .int .i64 ax, .slice po pn pc, .slice qo qn qc] 28))
  show Calls Tryd.prog 16 #[.agg #[.int .i64 kx, .string tx, .bool nx, .slice xo xn xc, .slice yo yn yc, .int .i64 ax, .slice po pn pc, .slice qo qn qc]] w _
  go_enter Tryd.func16, Tryd.ntmps16
  go_wp2_with fail
  refine (few_any D _ _ (HD.out.keep HB1.out)).mono ?_
  rintro e w2 ⟨rfl, hb2⟩
  have HB2 := Lib.hid (HB1.out.trans (hb2.mono HB1.out.size))
  have HN2 := Lib.hid ((hb2.block _ (Array.getElem?_eq_some_iff.1 HN1.out).1).trans HN1.out)
  clear hb2 HB1 HN1
  cases hf : fewB D with
  | false =>
    have HV : Hid (sndX D = false) := Lib.hid (by
      cases h : sndX D with
      | false => rfl
      | true => rw [sndX_few h] at hf; cases hf)
    clear hf
    go_wp2_with fail
    go_ret
    exact ⟨ret_bl HV.out.symm, HB2.out⟩
  | true =>
    clear hf
    obtain ⟨c0, c1, c2, c3, c4, c5, c6, c7⟩ := rowS8 HN2.out
    go_wp2_with fail
    refine (datum_any _ D (Nat.le_refl _) HSM.out _ _ (HD.out.keep HB2.out)).mono ?_
    rintro e w3 ⟨us3, rfl, hly3, hb3⟩
    have HB3 := Lib.hid (HB2.out.trans (hb3.mono HB2.out.size))
    have HN3 := Lib.hid ((hb3.block _ (Array.getElem?_eq_some_iff.1 HN2.out).1).trans HN2.out)
    have HL3 := Lib.hid hly3.lay
    clear hb3 hly3 HN2 HB2 c0 c1 c2 c3 c4 c5 c6 c7
    go_wp2_with fail
    refine (may_any (dtm D) us3 w3 HL3.out HSM.out.dtm (HT.out.below HB3.out (Nat.le_refl _))).mono ?_
    rintro e w4 ⟨rfl, hb4⟩
    have HB4 := Lib.hid (HB3.out.trans (hb4.mono HB3.out.size))
    have HN4 := Lib.hid ((hb4.block _ (Array.getElem?_eq_some_iff.1 HN3.out).1).trans HN3.out)
    have HV : Hid (sndX D = ((sndD (dtm D) && !othB (dtm D)) && jnsB [] [] D)) := Lib.hid (by unfold sndX; rw [Bool.and_assoc])
    clear hb4 HN3 HB3 HL3
    cases hm : (sndD (dtm D) && !othB (dtm D)) with
    | false =>
      have HM := Lib.hid hm
      clear hm
      go_wp2_with fail
      go_ret
      exact ⟨ret_bl (by rw [HV.out, HM.out]; rfl), HB4.out⟩
    | true =>
      have HM := Lib.hid hm
      clear hm
      obtain ⟨c0, c1, c2, c3, c4, c5, c6, c7⟩ := rowS8 HN4.out
      go_wp2_with fail
      refine (joins_any _ D (Nat.le_refl _) _ _ (.agg #[.slice none 0 0, .slice none 0 0]) [] [] (HD.out.keep HB4.out) ⟨_, _, rfl, Iz.nil _, Iz.nil _⟩).mono ?_
      rintro e w5 ⟨rfl, hb5⟩
      have HB5 := Lib.hid (HB4.out.trans (hb5.mono HB4.out.size))
      clear hb5 c0 c1 c2 c3 c4 c5 c6 c7
      go_wp2_with fail
      go_ret
      exact ⟨ret_bl (by rw [HV.out, HM.out]; rfl), HB5.out⟩
noncomputable def idB (D : Sx) : Bool := decide (D.k = 4) && sndX D

set_option maxRecDepth 100000 in
set_option maxHeartbeats 4000000 in
/-- stx.Ident. -/
theorem ident_any (D : Sx) (us : List Value) (w : World) (hd : SLay w D us) (hsm : SmS 1100000 D) (ht : Tabs w) :
    Calls Tryd.prog 15 #[.agg us.toArray] w fun e w' => e = .returned (.bool (idB D)) ∧ Below w.heap.size w w' := by
  obtain ⟨kx, tx, nx, xo, xn, xc, yo, yn, yc, ax, po, pn, pc, qo, qn, qc, rfl⟩ := sx_shapes hd
  have hk : kx = D.k := by
    obtain ⟨_, _, _, _, _, he, _⟩ := hd.open'
    simp only [List.cons.injEq, Value.int.injEq, true_and] at he
    exact he.1
  have HD := Lib.hid hd
  have HSM := Lib.hid hsm
  have HT := Lib.hid ht
  clear hd hsm ht
  have HB1 := Lib.hid (below1 w (.cells #[.int .i64 kx, .string tx, .bool nx, .slice xo xn xc, .slice yo yn yc, .int .i64 ax, .slice po pn pc, .slice qo qn qc] 28))
  show Calls Tryd.prog 15 #[.agg #[.int .i64 kx, .string tx, .bool nx, .slice xo xn xc, .slice yo yn yc, .int .i64 ax, .slice po pn pc, .slice qo qn qc]] w _
  by_cases h4 : kx = 4
  · have HV : Hid (idB D = sndX D) := Lib.hid (by unfold idB; rw [← hk, decide_eq_true h4, Bool.true_and])
    have hd4 : (kx == 4) = true := by rw [h4]; rfl
    clear hk h4
    go_enter Tryd.func15, Tryd.ntmps15
    go_wp2_with fail
    refine (xsound_any D _ _ (HD.out.keep HB1.out) HSM.out (HT.out.below HB1.out (Nat.le_refl _))).mono ?_
    rintro e w2 ⟨rfl, hb2⟩
    have HB2 := Lib.hid (HB1.out.trans (hb2.mono HB1.out.size))
    clear hb2
    go_wp2_with fail
    go_ret
    exact ⟨ret_bl HV.out.symm, HB2.out⟩
  · have HV : Hid (idB D = false) := Lib.hid (by unfold idB; rw [← hk, decide_eq_false h4, Bool.false_and])
    have hd4 : (kx == 4) = false := by rw [beq_eq_false_iff_ne]; exact h4
    clear hk h4
    go_enter Tryd.func15, Tryd.ntmps15
    go_wp2_with fail
    go_ret
    exact ⟨ret_bl HV.out.symm, HB1.out⟩
end Go.Proofs.YtbfcbicbeagjkaaDoor
