/- stx.datum and stx.Strip once more: the answer's list lies in memory of its own. -/
import Derived.Test.YtbfcbicbeagjkaaDoorSxSpl
namespace Go.Proofs.YtbfcbicbeagjkaaDoor
open Go.RowKit

/-- A row of datums in memory of its own. -/
def Ro (W : World) (B : Nat) (v : Value) (n : Nat) : Prop := n ≤ maxLen ∧ ((∃ c, v = .slice none n c ∧ n = 0) ∨ ∃ (g cap : Nat) (cur : Array Value), v = .slice (some ⟨g, 0, none⟩) n cap ∧ B ≤ g ∧ W.heap[g]? = some (.cells cur 40 (0, 0)) ∧ n * 6 ≤ cur.size)
theorem Ro.of_own {w : World} {B n : Nat} {v : Value} {xs : List Value} (h : w.ownsRow B 40 6 v n xs) : Ro w B v n := by
  refine ⟨?_, ?_⟩
  · exact (RowV.of_own h).2.1
  · rcases h.2 with ⟨hv, hn⟩ | ⟨g, cap, cur, hv, hB, hb, hn, _, hz, _⟩
    · exact .inl ⟨_, by rw [hv, hn], hn⟩
    · exact .inr ⟨g, cap, cur, hv, hB, hb, by omega⟩
theorem Ro.nil (w : World) (B : Nat) : Ro w B (.slice none 0 0) 0 := ⟨Nat.zero_le _, .inl ⟨0, rfl, rfl⟩⟩
theorem Ro.base {w : World} {B B' n : Nat} {v : Value} (h : Ro w B v n) (hb : B' ≤ B) : Ro w B' v n := by
  obtain ⟨h0, h1 | ⟨g, cap, cur, hv, hB, h2⟩⟩ := h
  · exact ⟨h0, .inl h1⟩
  · exact ⟨h0, .inr ⟨g, cap, cur, hv, Nat.le_trans hb hB, h2⟩⟩
theorem Ro.keep {w w' : World} {B n : Nat} {v : Value} (h : Ro w B v n) {P : Nat → Prop} (hk : Keeps P w w') (hp : ∀ b, B ≤ b → P b) : Ro w' B v n := by
  obtain ⟨h0, h1 | ⟨g, cap, cur, hv, hB, hb, hn⟩⟩ := h
  · exact ⟨h0, .inl h1⟩
  · exact ⟨h0, .inr ⟨g, cap, cur, hv, hB, (hk.2 g (Array.getElem?_eq_some_iff.1 hb).1 (hp g hB)).trans hb, hn⟩⟩
theorem Ro.set {w : World} {B n : Nat} {v : Value} (h : Ro w B v n) (q i : Nat) (u : Value) : Ro (w.setCell ⟨q, i, none⟩ u) B v n := by
  obtain ⟨h0, h1 | ⟨g, cap, cur, hv, hB, hb, hn⟩⟩ := h
  · exact ⟨h0, .inl h1⟩
  · refine ⟨h0, .inr ?_⟩
    by_cases e : g = q
    · subst e
      exact ⟨g, cap, _, hv, hB, rowSet hb i u, by simpa using hn⟩
    · exact ⟨g, cap, cur, hv, hB, (((Keeps.refl (fun b => b ≠ q) w).set (p := ⟨q, i, none⟩) (fun h => h rfl) u).2 g (Array.getElem?_eq_some_iff.1 hb).1 e).trans hb, hn⟩
/-- A datum whose list is its own. -/
def DoP (w : World) (e : Ending) (w' : World) : Prop := ∃ y0 y1 y2 lo ln lc ao an ac y5, e = .returned (.agg #[.int .i64 y0, .string y1, .bool y2, .slice lo ln lc, .slice ao an ac, .int .i64 y5]) ∧ Ro w' w.heap.size (.slice ao an ac) an ∧ Below w.heap.size w w'
def StO (w : World) (e : Ending) (w' : World) : Prop := ∃ y0 y1 y2 lo ln lc ao an ac y5 er, e = .returned (.tuple #[.agg #[.int .i64 y0, .string y1, .bool y2, .slice lo ln lc, .slice ao an ac, .int .i64 y5], .int .i64 er]) ∧ Ro w' w.heap.size (.slice ao an ac) an ∧ Below w.heap.size w w'

set_option maxRecDepth 100000 in
set_option maxHeartbeats 8000000 in
theorem datumO_any (D : Sx) (hsm : SmS 1100000 D) (us : List Value) (w : World) (h1 : SLay w D us) : Calls Tryd.prog 25 #[.agg us.toArray] w (DoP w) := by
  obtain ⟨i0, hi, hz0, hz1, hz2⟩ := info_parts infoDat
  have HI := Lib.hid (And.intro hi (And.intro hz0 (And.intro hz1 hz2)))
  clear hi hz0 hz1 hz2
  obtain ⟨k, t, n, r, l, a, mm, s⟩ := D
  obtain ⟨hs1, hs2, hs3, _, _, hs6⟩ := hsm.open'
  obtain ⟨lv, av, mv, sv, xs, rfl, hts, hlim, hrr, hrow1, hrm, hrs, hin1⟩ := h1.open'
  simp only [Sx.k, Sx.t, Sx.n, Sx.r, Sx.l, Sx.a, Sx.m, Sx.s] at hs1 hs2 hs3 hs6 hts hlim hrr hrow1 hrm hrs hin1 ⊢
  have HTS : Hid (t.size ≤ 100000000) := Lib.hid (by omega)
  have HTL := Lib.hid (And.intro hts hlim)
  have HSM := Lib.hid hs6
  have HLL := Lib.hid hs3
  have HRL : Hid (r.length ≤ 2000000) := Lib.hid (by omega)
  have HI1 := Lib.hid hin1
  have HW1 := Lib.hid hrow1
  have HRR := Lib.hid hrr
  have hmx : l.length ≤ 9223372036854775807 := by omega
  have HMX := Lib.hid hmx
  obtain ⟨ao, cv0, rfl⟩ : ∃ o c, av = .slice o l.length c := by obtain ⟨_, _, o, c, h, _⟩ := hrow1; exact ⟨o, c, h⟩
  obtain ⟨lo, lc, rfl⟩ : ∃ o c, lv = .slice o r.length c := by obtain ⟨_, _, o, c, h, _⟩ := hrr; exact ⟨o, c, h⟩
  obtain ⟨mo, mc, rfl⟩ : ∃ o c, mv = .slice o mm.length c := by obtain ⟨_, _, o, c, h, _⟩ := hrm; exact ⟨o, c, h⟩
  obtain ⟨so, sc, rfl⟩ : ∃ o c, sv = .slice o s.length c := by obtain ⟨_, _, o, c, h, _⟩ := hrs; exact ⟨o, c, h⟩
  clear h1 hsm hs1 hs2 hs3 hs6 hts hlim hrr hrow1 hrm hrs hin1 hmx
  show Calls Tryd.prog 25 #[.agg #[.int .i64 k, .string t, .bool n, .slice lo r.length lc, .slice ao l.length cv0, .int .i64 a, .slice mo mm.length mc, .slice so s.length sc]] w _
  have hb1 := below2 w (.cells #[.int .i64 k, .string t, .bool n, .slice lo r.length lc, .slice ao l.length cv0, .int .i64 a, .slice mo mm.length mc, .slice so s.length sc] 28) (.cells #[.int .i64 0, .string ⟨#[]⟩, .bool false, .slice none 0 0, .slice none 0 0, .int .i64 0] 40)
  have hn1 := @newsd2 w (.cells #[.int .i64 k, .string t, .bool n, .slice lo r.length lc, .slice ao l.length cv0, .int .i64 a, .slice mo mm.length mc, .slice so s.length sc] 28) (.cells #[.int .i64 0, .string ⟨#[]⟩, .bool false, .slice none 0 0, .slice none 0 0, .int .i64 0] 40)
  have hs1 : ((w.alloc (.cells #[.int .i64 k, .string t, .bool n, .slice lo r.length lc, .slice ao l.length cv0, .int .i64 a, .slice mo mm.length mc, .slice so s.length sc] 28)).alloc (.cells #[.int .i64 0, .string ⟨#[]⟩, .bool false, .slice none 0 0, .slice none 0 0, .int .i64 0] 40)).heap.size = w.heap.size + 2 := by simp
  go_enter Tryd.func25, Tryd.ntmps25
  go_upto_region 1 with fail
  generalize (w.alloc (.cells #[.int .i64 k, .string t, .bool n, .slice lo r.length lc, .slice ao l.length cv0, .int .i64 a, .slice mo mm.length mc, .slice so s.length sc] 28)).alloc (.cells #[.int .i64 0, .string ⟨#[]⟩, .bool false, .slice none 0 0, .slice none 0 0, .int .i64 0] 40) = W1 at *
  have HB1 := Lib.hid hb1
  have HX := Lib.hid hn1.1
  have HZ := Lib.hid hn1.2
  have HS1 := Lib.hid hs1
  have HLT := Lib.hid (And.intro (Array.getElem?_eq_some_iff.1 hn1.1).1 (Array.getElem?_eq_some_iff.1 hn1.2).1)
  clear hb1 hn1 hs1
  refine wp_region_late 12 11 10 3 16 (psi [isV (.pointer (some ⟨w.heap.size, 0, none⟩)), isV (.int .i64 k), isV (.pointer (some ⟨w.heap.size, 1, none⟩)), isV (.string t), isV (.string t), isV (.pointer (some ⟨w.heap.size, 2, none⟩)), isV (.agg #[.bool n, .slice lo r.length lc]), isNum n W1.heap.size r.length (ucs r), isV (.pointer (some ⟨w.heap.size, 5, none⟩)), isV (.int .i64 a), isDat k t n a W1.heap.size r.length (ucs r), isBoxD W1.heap.size, nothing]) (fun W => Below W1.heap.size W1 W) (fun p v W0 W' => ∃ g a0 a1 a2 a3 a4 a5, p = .pointer (some ⟨g, 0, none⟩) ∧ v = .agg #[a0, a1, a2, a3, a4, a5] ∧ W' = put6w W0 g a0 a1 a2 a3 a4 a5) (by kernel_rfl) (Below.refl _ _).drew (psi_mono ?_) (by kernel_rfl) (by kernel_rfl) (by kernel_rfl) ?_ ?_
  · intro pq hp
    simp only [List.mem_cons, List.not_mem_nil, or_false] at hp
    (repeat' rcases hp with rfl | hp) <;> first | exact isV_stays _ | exact nothing_stays | (subst hp; first | exact isV_stays _ | exact nothing_stays) | exact isBoxD_stays _ | exact isDat_stays _ _ _ _ _ _ _ | exact isNum_stays _ _ _ _ | (subst hp; exact isBoxD_stays _) | (subst hp; exact isDat_stays _ _ _ _ _ _ _) | (subst hp; exact isNum_stays _ _ _ _)
  · refine AllOps.cons ?_ ?_
    · refine OpL.early (by kernel_rfl) (by kernel_rfl) fun ab W hC hB hdep => ?_
      refine .inl ⟨rfl, ?_⟩
      have b0 : ab.tmps.getD 1 undef = .pointer (some ⟨w.heap.size, 0, none⟩) := hB.off 1 (by kernel_rfl)
      clear hB hdep
      refine goes_value (v := .pointer (some ⟨w.heap.size, 0, none⟩)) ?_ hC rfl
      simp only [execOp, Act.eval, b0]
      go_simp
    refine AllOps.cons ?_ ?_
    · refine OpL.early (by kernel_rfl) (by kernel_rfl) fun ab W hC hB hdep => ?_
      refine .inl ⟨rfl, ?_⟩
      obtain ⟨x0, (q0 : (isV (.pointer (some ⟨w.heap.size, 0, none⟩))) x0 W), e0⟩ := hdep 0 6 (by kernel_rfl)
      obtain rfl : x0 = .pointer (some ⟨w.heap.size, 0, none⟩) := q0
      obtain ⟨c0, c1, c2, c3, c4, c5, c6, c7⟩ := rowS8 ((hC.block _ HLT.out.1).trans HX.out)
      clear hB hdep
      refine goes_value (v := .int .i64 k) ?_ hC rfl
      simp only [execOp, Act.eval, e0]
      go_simp
    refine AllOps.cons ?_ ?_
    · refine OpL.early (by kernel_rfl) (by kernel_rfl) fun ab W hC hB hdep => ?_
      refine .inl ⟨rfl, ?_⟩
      have b0 : ab.tmps.getD 1 undef = .pointer (some ⟨w.heap.size, 0, none⟩) := hB.off 1 (by kernel_rfl)
      clear hB hdep
      refine goes_value (v := .pointer (some ⟨w.heap.size, 1, none⟩)) ?_ hC rfl
      simp only [execOp, Act.eval, b0]
      go_simp
    refine AllOps.cons ?_ ?_
    · refine OpL.early (by kernel_rfl) (by kernel_rfl) fun ab W hC hB hdep => ?_
      refine .inl ⟨rfl, ?_⟩
      obtain ⟨x0, (q0 : (isV (.pointer (some ⟨w.heap.size, 1, none⟩))) x0 W), e0⟩ := hdep 2 8 (by kernel_rfl)
      obtain rfl : x0 = .pointer (some ⟨w.heap.size, 1, none⟩) := q0
      obtain ⟨c0, c1, c2, c3, c4, c5, c6, c7⟩ := rowS8 ((hC.block _ HLT.out.1).trans HX.out)
      clear hB hdep
      refine goes_value (v := .string t) ?_ hC rfl
      simp only [execOp, Act.eval, e0]
      go_simp
    refine AllOps.cons ?_ ?_
    · refine OpL.early (by kernel_rfl) (by kernel_rfl) fun ab W hC hB hdep => ?_
      refine .inl ⟨rfl, ?_⟩
      obtain ⟨x0, (q0 : (isV (.string t)) x0 W), e0⟩ := hdep 3 9 (by kernel_rfl)
      obtain rfl : x0 = .string t := q0
      clear hB hdep
      refine goes_call (f := 40) (args := #[.string t]) ?_ ?_
      · simp only [execOp]
        go_simp
      · exact (sclone_any t W HTS.out).mono fun e w7 ⟨he, hb⟩ => ⟨_, he, hC.trans (hb.mono hC.size), hb, rfl⟩
    refine AllOps.cons ?_ ?_
    · refine OpL.early (by kernel_rfl) (by kernel_rfl) fun ab W hC hB hdep => ?_
      refine .inl ⟨rfl, ?_⟩
      have b0 : ab.tmps.getD 1 undef = .pointer (some ⟨w.heap.size, 0, none⟩) := hB.off 1 (by kernel_rfl)
      clear hB hdep
      refine goes_value (v := .pointer (some ⟨w.heap.size, 2, none⟩)) ?_ hC rfl
      simp only [execOp, Act.eval, b0]
      go_simp
    refine AllOps.cons ?_ ?_
    · refine OpL.early (by kernel_rfl) (by kernel_rfl) fun ab W hC hB hdep => ?_
      refine .inl ⟨rfl, ?_⟩
      obtain ⟨x0, (q0 : (isV (.pointer (some ⟨w.heap.size, 2, none⟩))) x0 W), e0⟩ := hdep 5 11 (by kernel_rfl)
      obtain rfl : x0 = .pointer (some ⟨w.heap.size, 2, none⟩) := q0
      obtain ⟨c0, c1, c2, c3, c4, c5, c6, c7⟩ := rowS8 ((hC.block _ HLT.out.1).trans HX.out)
      clear hB hdep
      refine goes_value (v := .agg #[.bool n, .slice lo r.length lc]) ?_ hC rfl
      simp only [execOp, Act.eval, e0]
      go_simp
    refine AllOps.cons ?_ ?_
    · refine OpL.early (by kernel_rfl) (by kernel_rfl) fun ab W hC hB hdep => ?_
      refine .inl ⟨rfl, ?_⟩
      obtain ⟨x0, (q0 : (isV (.agg #[.bool n, .slice lo r.length lc])) x0 W), e0⟩ := hdep 6 12 (by kernel_rfl)
      obtain rfl : x0 = .agg #[.bool n, .slice lo r.length lc] := q0
      clear hB hdep
      refine goes_call (f := 41) (args := #[.agg #[.bool n, .slice lo r.length lc]]) ?_ ?_
      · simp only [execOp]
        go_simp
      · exact (number_any n _ r W (HRR.out.below (HB1.out.trans (hC.mono HB1.out.size))) HRL.out).mono fun e w7 ⟨o7, c7, he, ho, hb⟩ => ⟨_, he, hC.trans (hb.mono hC.size), hb, o7, c7, rfl, ownsRow_base ho hC.size⟩
    refine AllOps.cons ?_ ?_
    · refine OpL.early (by kernel_rfl) (by kernel_rfl) fun ab W hC hB hdep => ?_
      refine .inl ⟨rfl, ?_⟩
      have b0 : ab.tmps.getD 1 undef = .pointer (some ⟨w.heap.size, 0, none⟩) := hB.off 1 (by kernel_rfl)
      clear hB hdep
      refine goes_value (v := .pointer (some ⟨w.heap.size, 5, none⟩)) ?_ hC rfl
      simp only [execOp, Act.eval, b0]
      go_simp
    refine AllOps.cons ?_ ?_
    · refine OpL.early (by kernel_rfl) (by kernel_rfl) fun ab W hC hB hdep => ?_
      refine .inl ⟨rfl, ?_⟩
      obtain ⟨x0, (q0 : (isV (.pointer (some ⟨w.heap.size, 5, none⟩))) x0 W), e0⟩ := hdep 8 14 (by kernel_rfl)
      obtain rfl : x0 = .pointer (some ⟨w.heap.size, 5, none⟩) := q0
      obtain ⟨c0, c1, c2, c3, c4, c5, c6, c7⟩ := rowS8 ((hC.block _ HLT.out.1).trans HX.out)
      clear hB hdep
      refine goes_value (v := .int .i64 a) ?_ hC rfl
      simp only [execOp, Act.eval, e0]
      go_simp
    refine AllOps.cons ?_ ?_
    · refine OpL.early (by kernel_rfl) (by kernel_rfl) fun ab W hC hB hdep => ?_
      refine .inl ⟨rfl, ?_⟩
      obtain ⟨x0, (q0 : (isV (.int .i64 k)) x0 W), e0⟩ := hdep 1 7 (by kernel_rfl)
      obtain rfl : x0 = .int .i64 k := q0
      obtain ⟨x1, (q1 : (isV (.string t)) x1 W), e1⟩ := hdep 4 10 (by kernel_rfl)
      obtain rfl : x1 = .string t := q1
      obtain ⟨x2, (q2 : (isNum n W1.heap.size r.length (ucs r)) x2 W), e2⟩ := hdep 7 13 (by kernel_rfl)
      obtain ⟨uo2, uc2, rfl, hu2⟩ := q2
      obtain ⟨x3, (q3 : (isV (.int .i64 a)) x3 W), e3⟩ := hdep 9 15 (by kernel_rfl)
      obtain rfl : x3 = .int .i64 a := q3
      clear hB hdep
      refine goes_value (v := .agg #[.int .i64 k, .string t, .bool n, .slice uo2 r.length uc2, .slice none 0 0, .int .i64 a]) ?_ hC ⟨_, _, rfl, hu2⟩
      simp only [Array.getD_eq_getD_getElem?] at e0 e1 e2 e3
      simp only [execOp]
      go_simp
    refine AllOps.cons ?_ ?_
    · refine OpL.early (by kernel_rfl) (by kernel_rfl) fun ab W hC hB hdep => ?_
      refine .inl ⟨rfl, ?_⟩
      clear hB hdep
      refine goes_world (v := .pointer (some ⟨W.heap.size, 0, none⟩)) (w1 := W.alloc (.cells #[.int .i64 0, .string ⟨#[]⟩, .bool false, .slice none 0 0, .slice none 0 0, .int .i64 0] 40)) ?_ (hC.trans ((below1 W _).mono hC.size)) (below1 W _) ⟨_, rfl, hC.size, box1 W _ _⟩
      simp only [execOp]
      go_simp
    refine AllOps.cons ?_ ?_
    · refine OpL.write (by kernel_rfl) fun vals ab W hC hB hdep => ⟨rfl, ?_⟩
      obtain ⟨(q0 : (isBoxD W1.heap.size) (vals 11) W), e0⟩ := hdep 11 3 (by kernel_rfl)
      generalize vals 11 = x0 at *
      obtain ⟨g0, rfl, hg0, hz0⟩ := q0
      obtain ⟨(q1 : (isDat k t n a W1.heap.size r.length (ucs r)) (vals 10) W), e1⟩ := hdep 10 16 (by kernel_rfl)
      generalize vals 10 = x1 at *
      obtain ⟨uo1, uc1, rfl, hu1⟩ := q1
      clear hB hdep
      have z0 := frozen_heap hz0 0
      have z1 := frozen_heap hz0 1
      have z2 := frozen_heap hz0 2
      have z3 := frozen_heap hz0 3
      have z4 := frozen_heap hz0 4
      have z5 := frozen_heap hz0 5
      obtain ⟨c0, c1, c2, c3, c4, c5⟩ := row6d hz0
      refine writes_skip (w1 := put6w W g0 (.int .i64 k) (.string t) (.bool n) (.slice uo1 r.length uc1) (.slice none 0 0) (.int .i64 a)) ?_ ⟨_, _, _, _, _, _, _, rfl, rfl, rfl⟩
      unfold put6w
      simp only [execOp, Act.eval, e0, e1]
      go_simp
    exact trivial
  · intro vals aa W0 w8 hC hFin hB hall
    obtain ⟨(k0 : (isV (.pointer (some ⟨w.heap.size, 0, none⟩))) (vals 0) W0), e0⟩ := hall 0 _ rfl (by decide)
    obtain ⟨(k1 : (isV (.int .i64 k)) (vals 1) W0), e1⟩ := hall 1 _ rfl (by decide)
    obtain ⟨(k2 : (isV (.pointer (some ⟨w.heap.size, 1, none⟩))) (vals 2) W0), e2⟩ := hall 2 _ rfl (by decide)
    obtain ⟨(k3 : (isV (.string t)) (vals 3) W0), e3⟩ := hall 3 _ rfl (by decide)
    obtain ⟨(k4 : (isV (.string t)) (vals 4) W0), e4⟩ := hall 4 _ rfl (by decide)
    obtain ⟨(k5 : (isV (.pointer (some ⟨w.heap.size, 2, none⟩))) (vals 5) W0), e5⟩ := hall 5 _ rfl (by decide)
    obtain ⟨(k6 : (isV (.agg #[.bool n, .slice lo r.length lc])) (vals 6) W0), e6⟩ := hall 6 _ rfl (by decide)
    obtain ⟨(k7 : (isNum n W1.heap.size r.length (ucs r)) (vals 7) W0), e7⟩ := hall 7 _ rfl (by decide)
    obtain ⟨(k8 : (isV (.pointer (some ⟨w.heap.size, 5, none⟩))) (vals 8) W0), e8⟩ := hall 8 _ rfl (by decide)
    obtain ⟨(k9 : (isV (.int .i64 a)) (vals 9) W0), e9⟩ := hall 9 _ rfl (by decide)
    obtain ⟨(k10 : (isDat k t n a W1.heap.size r.length (ucs r)) (vals 10) W0), e10⟩ := hall 10 _ rfl (by decide)
    obtain ⟨(k11 : (isBoxD W1.heap.size) (vals 11) W0), e11⟩ := hall 11 _ rfl (by decide)
    have hv : ∀ pq ∈ [((6 : Nat), (.pointer (some ⟨w.heap.size, 0, none⟩) : Value)), ((7 : Nat), (.int .i64 k : Value)), ((8 : Nat), (.pointer (some ⟨w.heap.size, 1, none⟩) : Value)), ((9 : Nat), (.string t : Value)), ((10 : Nat), (.string t : Value)), ((11 : Nat), (.pointer (some ⟨w.heap.size, 2, none⟩) : Value)), ((12 : Nat), (.agg #[.bool n, .slice lo r.length lc] : Value)), ((13 : Nat), (vals 7 : Value)), ((14 : Nat), (.pointer (some ⟨w.heap.size, 5, none⟩) : Value)), ((15 : Nat), (.int .i64 a : Value)), ((16 : Nat), (vals 10 : Value)), ((3 : Nat), (vals 11 : Value))], aa.tmps.getD pq.1 undef = pq.2 := by
      intro pq hp
      simp only [List.mem_cons, List.not_mem_nil, or_false] at hp
      rcases hp with rfl | rfl | rfl | rfl | rfl | rfl | rfl | rfl | rfl | rfl | rfl | rfl
      · exact (e0 _ rfl).trans k0
      · exact (e1 _ rfl).trans k1
      · exact (e2 _ rfl).trans k2
      · exact (e3 _ rfl).trans k3
      · exact (e4 _ rfl).trans k4
      · exact (e5 _ rfl).trans k5
      · exact (e6 _ rfl).trans k6
      · exact e7 _ rfl
      · exact (e8 _ rfl).trans k8
      · exact (e9 _ rfl).trans k9
      · exact e10 _ rfl
      · exact e11 _ rfl
    have hact := act_fold _ hB hv (by kernel_rfl)
    subst hact
    clear hv hall hB e0 e1 e2 e3 e4 e5 e6 e7 e8 e9 e10 e11
    refine (‹∀ (a : Act) (w : World), Code.wp Tryd.prog _ _ a w → _›) _ _ ?_
    simp only [List.foldl, List.setIfInBounds_toArray, List.set_cons_succ, List.set_cons_zero]
    obtain ⟨g, a0, a1, a2, a3, a4, a5, hg, hag, rfl⟩ := hFin
    obtain ⟨g', hg', hge, hz⟩ := k11
    rw [hg] at hg'
    simp only [Value.pointer.injEq, Option.some.injEq, Addr.mk.injEq, and_true] at hg'
    subst hg'
    obtain ⟨lo', lc', hoc, how⟩ := k10
    rw [hag] at hoc
    simp only [Value.agg.injEq, Array.mk.injEq, List.cons.injEq, and_true] at hoc
    obtain ⟨rfl, rfl, rfl, rfl, rfl, rfl⟩ := hoc
    rw [hg]
    have hbx := put6w_row hz (.int .i64 k) (.string t) (.bool n) (.slice lo' r.length lc') (.slice none 0 0) (.int .i64 a)
    have hkp := put6w_keep (fun b => b ≠ g) W0 g (by simp) (.int .i64 k) (.string t) (.bool n) (.slice lo' r.length lc') (.slice none 0 0) (.int .i64 a)
    have hfar := own_farT how hz (by decide)
    have hds : DatS (fun b => W1.heap.size ≤ b) W1.heap.size g W1 (.slice lo' r.length lc') r (l.map dtm) (.slice none 0 0) 0 [] (put6w W0 g (.int .i64 k) (.string t) (.bool n) (.slice lo' r.length lc') (.slice none 0 0) (.int .i64 a)) :=
      ⟨World.ownsRow_nil _ _ _ _, by rw [List.take_zero]; exact DmRow.nil _ _, put6w_below' hC hge _ _ _ _ _ _, RowV.of_own (ownsRow_keep how hkp hfar), fun b hb1 hb2 => ⟨⟨(how.lt b hb2).1, hfar b hb2⟩, fun e => by cases e⟩, (Array.getElem?_eq_some_iff.1 hbx).1, hge⟩
    have HBX0 := Lib.hid hbx
    have HDS0 := Lib.hid hds
    clear hbx hkp hfar hds hz hg hag how hge hC k0 k1 k2 k3 k4 k5 k6 k7 k8 k9
    generalize put6w W0 g (.int .i64 k) (.string t) (.bool n) (.slice lo' r.length lc') (.slice none 0 0) (.int .i64 a) = W2 at *
    obtain ⟨c0, c1, c2, c3, c4, c5, c6, c7⟩ := rowS8 ((HDS0.out.bel.block _ HLT.out.1).trans HX.out)
    go_wp2_with fail
    go_loopw [20] (fun v wr => ∃ (j : Nat) (us' : List Value) (vv : Value), v = .int .i64 (j : Nat) ∧ j ≤ l.length ∧ wr.heap[g]? = some (.cells #[.int .i64 k, .string t, .bool n, .slice lo' r.length lc', vv, .int .i64 a] 40 (0, 0)) ∧ DatS (fun b => W1.heap.size ≤ b) W1.heap.size g W1 (.slice lo' r.length lc') r (l.map dtm) vv j us' wr) (fun v _ => l.length - (intOf v).toNat)
    case atStart => exact ⟨0, [], _, rfl, Nat.zero_le _, HBX0.out, HDS0.out⟩
    case round =>
      obtain ⟨j, us', vv, rfl, hj, hbx, hds⟩ := hrel
      obtain ⟨vo, vc, rfl⟩ := own_dslice hds.own
      have hmx := HMX.out
      have HBX := Lib.hid hbx
      have HDS := Lib.hid hds
      have HBR : Hid (Below w.heap.size w wr) := Lib.hid (HB1.out.trans (hds.bel.mono HB1.out.size))
      clear hbx hds
      by_cases hjl : j < l.length
      · have hii : ((j : Nat) : Int) < ((l.length : Nat) : Int) := by omega
        obtain ⟨b, off, cap, v0, v1, v2, v3, v4, v5, v6, v7, hav, _, _, hly, p0, p1, p2, p3, p4, p5, p6, p7⟩ := row_sx (HW1.out.below HBR.out) (fun j h => (HI1.out j h).keep HBR.out) hjl
        simp only [Value.slice.injEq, true_and] at hav
        obtain ⟨rfl, rfl⟩ := hav
        obtain ⟨x0, x1, x2, xo, xn, xc, yo, yn, yc, x5, po, pn, pc, qo2, qn, qc2, hsh⟩ := sx_shapes hly
        simp only [List.cons.injEq, and_true] at hsh
        obtain ⟨rfl, rfl, rfl, rfl, rfl, rfl, rfl, rfl⟩ := hsh
        have HY := Lib.hid hly
        have hb3 := below1 wr (.cells #[.int .i64 x0, .string x1, .bool x2, .slice xo xn xc, .slice yo yn yc, .int .i64 x5, .slice po pn pc, .slice qo2 qn qc2] 28)
        have hx3 := heap_alloc_new wr (.cells #[.int .i64 x0, .string x1, .bool x2, .slice xo xn xc, .slice yo yn yc, .int .i64 x5, .slice po pn pc, .slice qo2 qn qc2] 28)
        clear hly
        go_wp2_with fail
        clear p0 p1 p2 p3 p4 p5 p6 p7
        generalize wr.alloc (.cells #[.int .i64 x0, .string x1, .bool x2, .slice xo xn xc, .slice yo yn yc, .int .i64 x5, .slice po pn pc, .slice qo2 qn qc2] 28) = W3 at *
        have HA3 := Lib.hid hb3
        have HX3 := Lib.hid hx3
        clear hb3 hx3
        have HGX : Hid (∀ W, Below W3.heap.size W3 W → W.cell? ⟨g, 4, none⟩ = some (.slice vo j vc) ∧ W.cell? ⟨wr.heap.size, 0, none⟩ = some (.int .i64 x0) ∧ W.cell? ⟨wr.heap.size, 1, none⟩ = some (.string x1) ∧ W.cell? ⟨wr.heap.size, 2, none⟩ = some (.bool x2) ∧ W.cell? ⟨wr.heap.size, 3, none⟩ = some (.slice xo xn xc) ∧ W.cell? ⟨wr.heap.size, 4, none⟩ = some (.slice yo yn yc) ∧ W.cell? ⟨wr.heap.size, 5, none⟩ = some (.int .i64 x5) ∧ W.cell? ⟨wr.heap.size, 6, none⟩ = some (.slice po pn pc) ∧ W.cell? ⟨wr.heap.size, 7, none⟩ = some (.slice qo2 qn qc2)) := Lib.hid fun W hW =>
          ⟨cell_heap ((hW.block g (Nat.lt_of_lt_of_le HDS.out.lt HA3.out.size)).trans ((HA3.out.block g HDS.out.lt).trans HBX.out)) 4, rowS8 ((hW.block wr.heap.size (Array.getElem?_eq_some_iff.1 HX3.out).1).trans HX3.out)⟩
        have HCALL : Hid (∀ W, Below W3.heap.size W3 W → Calls Tryd.prog 25 #[.agg #[.int .i64 x0, .string x1, .bool x2, .slice xo xn xc, .slice yo yn yc, .int .i64 x5, .slice po pn pc, .slice qo2 qn qc2]] W (OwnPost (dtm (l[j]'hjl)) W)) := Lib.hid fun W hW => datum_any _ (l[j]'hjl) (Nat.le_refl _) (HSM.out j hjl) [.int .i64 x0, .string x1, .bool x2, .slice xo xn xc, .slice yo yn yc, .int .i64 x5, .slice po pn pc, .slice qo2 qn qc2] W (HY.out.keep (HA3.out.trans (hW.mono HA3.out.size)))
        refine wp_region_vals (fun L vals W => AllV [some (.pointer (some ⟨g, 4, none⟩)), some (.slice vo j vc), some (.agg #[.int .i64 x0, .string x1, .bool x2, .slice xo xn xc, .slice yo yn yc, .int .i64 x5, .slice po pn pc, .slice qo2 qn qc2]), none, none, none, some (.pointer (some ⟨g, 4, none⟩)), none] L vals ∧ Ph 5 7 (fun W => Below W3.heap.size W3 W) (fun v W => ∃ us3, DatS (fun b => W1.heap.size ≤ b) W1.heap.size g W1 (.slice lo' r.length lc') r (l.map dtm) v (j + 1) (us' ++ us3) W ∧ W.heap[g]? = some (.cells #[.int .i64 k, .string t, .bool n, .slice lo' r.length lc', .slice vo j vc, .int .i64 a] 40 (0, 0))) (fun v W => ∃ us3, DatS (fun b => W1.heap.size ≤ b) W1.heap.size g W1 (.slice lo' r.length lc') r (l.map dtm) v (j + 1) (us' ++ us3) W ∧ W.heap[g]? = some (.cells #[.int .i64 k, .string t, .bool n, .slice lo' r.length lc', v, .int .i64 a] 40 (0, 0))) L vals W ∧ Ph 3 4 (fun _ => True) (fun v W => ∃ us3, v = .agg us3.toArray ∧ LayP (fun b => W3.heap.size ≤ b) W (dtm (l[j]'hjl)) us3) (fun _ _ => True) L vals W ∧ Ph 4 5 (fun _ => True) (fun v W => ∃ (b : Nat) (us3 : List Value), v = .slice (some ⟨b, 0, none⟩) 1 1 ∧ us3.length = 6 ∧ W.heap[b]? = some (.cells us3.toArray 40 (0, 0)) ∧ LayP (fun b => W3.heap.size ≤ b) W (dtm (l[j]'hjl)) us3) (fun _ _ => True) L vals W) (by kernel_rfl) ?_ (by kernel_rfl) (by kernel_rfl) ?_ ?_
        · exact ⟨AllV.start _ _, Ph.start (Below.refl _ _).drew, Ph.start trivial, Ph.start trivial⟩
        · refine AllOps.cons ?_ ?_
          · intro L vals aa W hC hB hL hD hdep
            obtain ⟨hV, hP0, hP1, hP2⟩ := hC
            refine .inl ⟨rfl, ?_⟩
            have b0 : aa.tmps.getD 3 undef = .pointer (some ⟨g, 0, none⟩) := hB.off 3 (by kernel_rfl)
            refine goesV_value (v := .pointer (some ⟨g, 4, none⟩)) ?_ ⟨hV.fix rfl, hP0.idle (by decide) (by decide) _, hP1.idle (by decide) (by decide) _, hP2.idle (by decide) (by decide) _⟩
            simp only [execOp, Act.eval, b0]
            go_simp
          refine AllOps.cons ?_ ?_
          · intro L vals aa W hC hB hL hD hdep
            obtain ⟨hV, hP0, hP1, hP2⟩ := hC
            refine .inl ⟨rfl, ?_⟩
            have e0 : aa.tmps.getD 24 undef = .pointer (some ⟨g, 4, none⟩) := hV.at (j := 0) rfl (hdep 0 24 (by kernel_rfl))
            have hpre := hP0.pre (hD 5 (by kernel_rfl))
            obtain ⟨d4, c0, c1, c2, c3, c4, c5, c6, c7⟩ := HGX.out W hpre
            refine goesV_value (v := .slice vo j vc) ?_ ⟨hV.fix rfl, hP0.idle (by decide) (by decide) _, hP1.idle (by decide) (by decide) _, hP2.idle (by decide) (by decide) _⟩
            simp only [execOp, Act.eval, e0]
            go_simp
          refine AllOps.cons ?_ ?_
          · intro L vals aa W hC hB hL hD hdep
            obtain ⟨hV, hP0, hP1, hP2⟩ := hC
            refine .inl ⟨rfl, ?_⟩
            have b0 : aa.tmps.getD 5 undef = .pointer (some ⟨wr.heap.size, 0, none⟩) := hB.off 5 (by kernel_rfl)
            have hpre := hP0.pre (hD 5 (by kernel_rfl))
            obtain ⟨d4, c0, c1, c2, c3, c4, c5, c6, c7⟩ := HGX.out W hpre
            refine goesV_value (v := .agg #[.int .i64 x0, .string x1, .bool x2, .slice xo xn xc, .slice yo yn yc, .int .i64 x5, .slice po pn pc, .slice qo2 qn qc2]) ?_ ⟨hV.fix rfl, hP0.idle (by decide) (by decide) _, hP1.idle (by decide) (by decide) _, hP2.idle (by decide) (by decide) _⟩
            simp only [execOp, Act.eval, b0]
            go_simp
          refine AllOps.cons ?_ ?_
          · intro L vals aa W hC hB hL hD hdep
            obtain ⟨hV, hP0, hP1, hP2⟩ := hC
            refine .inl ⟨rfl, ?_⟩
            have e0 : aa.tmps.getD 26 undef = .agg #[.int .i64 x0, .string x1, .bool x2, .slice xo xn xc, .slice yo yn yc, .int .i64 x5, .slice po pn pc, .slice qo2 qn qc2] := hV.at (j := 2) rfl (hdep 2 26 (by kernel_rfl))
            have hpre := hP0.pre (hD 5 (by kernel_rfl))
            refine goesV_call (f := 25) (args := #[.agg #[.int .i64 x0, .string x1, .bool x2, .slice xo xn xc, .slice yo yn yc, .int .i64 x5, .slice po pn pc, .slice qo2 qn qc2]]) ?_ ?_
            · simp only [execOp]
              go_simp
            · exact (HCALL.out W hpre).mono fun e w7 ⟨us3, he, hly3, hb3⟩ => ⟨_, he, hV.free rfl, hP0.ahead (hD 5 (by kernel_rfl)) (by decide) (by decide) _ (hpre.trans (hb3.mono hpre.size)), hP1.first hL (by decide) ⟨us3, rfl, hly3.mono fun b _ hb => Nat.le_trans hpre.size hb⟩, hP2.ahead (hD 4 (by kernel_rfl)) (by decide) (by decide) _ trivial⟩
          refine AllOps.cons ?_ ?_
          · intro L vals aa W hC hB hL hD hdep
            obtain ⟨hV, hP0, hP1, hP2⟩ := hC
            refine .inl ⟨rfl, ?_⟩
            obtain ⟨l0, e0⟩ := hdep 3 27 (by kernel_rfl)
            have hpre := hP0.pre (hD 5 (by kernel_rfl))
            obtain ⟨us3, hu3, hly3⟩ := hP1.mid l0 hL
            obtain ⟨u0, u1, u2, u3, u4, u5, rfl⟩ := dm_cells6 hly3
            rw [hu3] at e0
            refine goesV_world (v := .slice (some ⟨W.heap.size, 0, none⟩) 1 1) (w1 := W.alloc (.cells #[u0, u1, u2, u3, u4, u5] 40)) ?_ ⟨hV.free rfl, hP0.ahead (hD 5 (by kernel_rfl)) (by decide) (by decide) _ (hpre.trans ((below1 W _).mono hpre.size)), Ph.last l0 (by decide) _ trivial, hP2.first hL (by decide) ⟨W.heap.size, [u0, u1, u2, u3, u4, u5], rfl, rfl, box1 W _ _, hly3.move (Keeps.of_below (below1 W _))⟩⟩
            simp only [Array.getD_eq_getD_getElem?] at e0
            simp only [execOp]
            go_simp
          refine AllOps.cons ?_ ?_
          · intro L vals aa W hC hB hL hD hdep
            obtain ⟨hV, hP0, hP1, hP2⟩ := hC
            refine .inl ⟨rfl, ?_⟩
            have e0 : aa.tmps.getD 25 undef = .slice vo j vc := hV.at (j := 1) rfl (hdep 1 25 (by kernel_rfl))
            obtain ⟨l1, e1⟩ := hdep 4 28 (by kernel_rfl)
            have hpre := hP0.pre hL
            obtain ⟨nb, us3, hnb, hl3, hcells, hly3⟩ := hP2.mid l1 hL
            rw [hnb] at e1
            have hn : ∀ i u, us3[i]? = some u → W.cell? ((⟨nb, 0, none⟩ : Addr).add i) = some u := World.news_of_block hcells
            have hds := HDS.out.below (HA3.out.trans (hpre.mono HA3.out.size))
            refine goesV_append _ _ 38 rfl (g + 1) 40 i0 _ 6 88 Tryd.underlying38 HI.out.1 HI.out.2.1 HI.out.2.2.1 HI.out.2.2.2 rfl (by decide) (.slice vo j vc) j us' e0 hds.own ⟨nb, 0, none⟩ 1 1 us3 e1 (by rw [hl3]) hn (one_cells hly3) (by have := HLL.out; unfold maxLen; omega) (by have := HLL.out; omega) (by have := hds.lt; omega) ?_
            intro v5 w5 hown5 hgrow5 hmv5
            exact ⟨hV.free rfl, hP0.first hL (by decide) ⟨us3, HDS.out.appended (HA3.out.trans (hpre.mono HA3.out.size)) (d := dtm (l[j]'hjl)) (by simp [hjl]) (hly3.mono fun b _ hb => (by have h1 := HA3.out.size; have h2 := HDS.out.lt; have h3 := HDS.out.le; exact ⟨⟨by omega, by omega⟩, fun e => by have := (HDS.out.own.lt b e).2; omega⟩)) hown5 hgrow5 hmv5, (hgrow5.block g hds.lt (fun e => hds.far g (by first | exact e | exact e.symm) rfl)).trans (((HA3.out.trans (hpre.mono HA3.out.size)).block g HDS.out.lt).trans HBX.out)⟩, Ph.done l1 (hP1.ord l1) (by decide) (by decide) _ trivial, Ph.last l1 (by decide) _ trivial⟩
          refine AllOps.cons ?_ ?_
          · intro L vals aa W hC hB hL hD hdep
            obtain ⟨hV, hP0, hP1, hP2⟩ := hC
            refine .inl ⟨rfl, ?_⟩
            have b0 : aa.tmps.getD 3 undef = .pointer (some ⟨g, 0, none⟩) := hB.off 3 (by kernel_rfl)
            refine goesV_value (v := .pointer (some ⟨g, 4, none⟩)) ?_ ⟨hV.fix rfl, hP0.idle (by decide) (by decide) _, hP1.idle (by decide) (by decide) _, hP2.idle (by decide) (by decide) _⟩
            simp only [execOp, Act.eval, b0]
            go_simp
          refine AllOps.cons ?_ ?_
          · intro L vals aa W hC hB hL hD hdep
            obtain ⟨hV, hP0, hP1, hP2⟩ := hC
            refine .inl ⟨rfl, ?_⟩
            have e0 : aa.tmps.getD 30 undef = .pointer (some ⟨g, 4, none⟩) := hV.at (j := 6) rfl (hdep 6 30 (by kernel_rfl))
            obtain ⟨l1, e1⟩ := hdep 5 29 (by kernel_rfl)
            obtain ⟨us3, hds, hbx⟩ := hP0.mid l1 hL
            obtain ⟨qo, qc, hq⟩ := own_dslice hds.own
            have hz := frozen_heap hbx 4
            have hc4 := cell_heap hbx 4
            rw [hq] at e1
            refine goesV_skip (w1 := W.setCell ⟨g, 4, none⟩ (vals 5)) ?_ ⟨hV.free rfl, Ph.last l1 (by decide) _ ⟨us3, hds.store _, (rowSet hbx 4 _).trans (by simp)⟩, Ph.done (hP2.ord l1) (hP1.ord (hP2.ord l1)) (by decide) (by decide) _ trivial, Ph.done l1 (hP2.ord l1) (by decide) (by decide) _ trivial⟩
            rw [hq]
            simp only [execOp, Act.eval, e0, e1]
            go_simp
          exact trivial
        · intro L vals aa w8 hC hLL hB hall
          obtain ⟨hV, hP0, hP1, hP2⟩ := hC
          have hv : ∀ p ∈ [((24 : Nat), (.pointer (some ⟨g, 4, none⟩) : Value)), ((25 : Nat), (.slice vo j vc : Value)), ((26 : Nat), (.agg #[.int .i64 x0, .string x1, .bool x2, .slice xo xn xc, .slice yo yn yc, .int .i64 x5, .slice po pn pc, .slice qo2 qn qc2] : Value)), ((27 : Nat), (vals 3 : Value)), ((28 : Nat), (vals 4 : Value)), ((29 : Nat), (vals 5 : Value)), ((30 : Nat), (.pointer (some ⟨g, 4, none⟩) : Value))], aa.tmps.getD p.1 undef = p.2 := by
            intro p hp
            simp only [List.mem_cons, List.not_mem_nil, or_false] at hp
            rcases hp with rfl | rfl | rfl | rfl | rfl | rfl | rfl
            · exact (hall 0 _ rfl _ rfl).trans (hV 0 _ rfl (hLL 0 (Nat.le_of_ble_eq_true rfl)))
            · exact (hall 1 _ rfl _ rfl).trans (hV 1 _ rfl (hLL 1 (Nat.le_of_ble_eq_true rfl)))
            · exact (hall 2 _ rfl _ rfl).trans (hV 2 _ rfl (hLL 2 (Nat.le_of_ble_eq_true rfl)))
            · exact hall 3 _ rfl _ rfl
            · exact hall 4 _ rfl _ rfl
            · exact hall 5 _ rfl _ rfl
            · exact (hall 6 _ rfl _ rfl).trans (hV 6 _ rfl (hLL 6 (Nat.le_of_ble_eq_true rfl)))
          have hact := act_fold _ hB hv (by kernel_rfl)
          subst hact
          have hfin := hP0.fin (hLL 7 (Nat.le_of_ble_eq_true rfl))
          clear hv hall hB hV hLL hP0 hP1 hP2
          refine (‹∀ (a : Act) (w : World), Code.wp Tryd.prog _ _ a w → _›) _ w8 ?_
          simp only [List.foldl, List.setIfInBounds_toArray, List.set_cons_succ, List.set_cons_zero]
          obtain ⟨us3, hds5, hbx5⟩ := hfin
          have HDS5 := Lib.hid hds5
          have HBX5 := Lib.hid hbx5
          clear hds5 hbx5
          go_wp2_with fail
          go_roundw
          case measure => simp only [intOf]; omega
          case rel => exact ⟨j + 1, us' ++ us3, vals 5, by go_num, by omega, HBX5.out, HDS5.out⟩
      · obtain rfl : j = l.length := by omega
        obtain ⟨c0, c1, c2, c3, c4, c5⟩ := row6d HBX.out
        have hz := (HDS.out.bel.block _ HLT.out.2).trans HZ.out
        have y0 := frozen_heap hz 0
        have y1 := frozen_heap hz 1
        have y2 := frozen_heap hz 2
        have y3 := frozen_heap hz 3
        have y4 := frozen_heap hz 4
        have y5 := frozen_heap hz 5
        obtain ⟨d0, d1, d2, d3, d4, d5⟩ := row6d hz
        have hrow := put6w_row hz (.int .i64 k) (.string t) (.bool n) (.slice lo' r.length lc') (.slice vo l.length vc) (.int .i64 a)
        have hkp := put6w_keep (fun b => b ≠ w.heap.size + 1) wr (w.heap.size + 1) (by simp) (.int .i64 k) (.string t) (.bool n) (.slice lo' r.length lc') (.slice vo l.length vc) (.int .i64 a)
        have hbf := put6w_below' HBR.out (show w.heap.size ≤ w.heap.size + 1 by omega) (.int .i64 k) (.string t) (.bool n) (.slice lo' r.length lc') (.slice vo l.length vc) (.int .i64 a)
        have HF := Lib.hid (And.intro hrow (And.intro hkp hbf))
        clear hrow hkp hbf hz
        go_wp2_with fail
        clear c0 c1 c2 c3 c4 c5 d0 d1 d2 d3 d4 d5 y0 y1 y2 y3 y4 y5
        unfold put6w at HF
        generalize World.setCell _ ⟨w.heap.size + 1, 5, none⟩ (.int .i64 a) = W9 at *
        obtain ⟨g0, g1, g2, g3, g4, g5⟩ := row6d HF.out.1
        have hle := HDS.out.le
        have hs1 := HS1.out
        have hown9 := ownsRow_keep HDS.out.own HF.out.2.1 fun b hb => by have := (HDS.out.own.lt b hb).1; omega
        have hkp9 : Keeps (fun b => (W1.heap.size ≤ b ∧ b ≠ g) ∧ (Value.slice vo l.length vc).ownBlock ≠ some b) wr W9 := HF.out.2.1.mono fun b _ hb => by have := hb.1.1; omega
        have hrow9 := HDS.out.row.move hkp9
        rw [List.take_of_length_le (by simp)] at hrow9
        have hlim9 := HDS.out.lim.move HDS.out.lip hkp9
        have HFIN := Lib.hid (Ro.of_own (ownsRow_base hown9 (show w.heap.size ≤ g + 1 by have := HB1.out.size; omega)))
        clear hown9 hkp9 hrow9 hlim9 hle hs1
        refine bodyPost_ret (v := .agg #[.int .i64 k, .string t, .bool n, .slice lo' r.length lc', .slice vo l.length vc, .int .i64 a]) (by simp [results, Tryd.results25, go_sem, g0, g1, g2, g3, g4, g5]) rfl ?_
        exact ⟨_, _, _, _, _, _, _, _, _, _, rfl, HFIN.out, HF.out.2.2⟩

set_option maxRecDepth 100000 in
set_option maxHeartbeats 4000000 in
theorem stripO_any (D : Sx) (us : List Value) (w : World) (hd : SLay w D us) (hsm : SmS 1100000 D) (ht : Tabs w) :
    Calls Tryd.prog 10 #[.agg us.toArray] w (StO w) := by
  obtain ⟨kx, tx, nx, xo, xn, xc, yo, yn, yc, ax, po, pn, pc, qo, qn, qc, rfl⟩ := sx_shapes hd
  have HD := Lib.hid hd
  have HSM := Lib.hid hsm
  have HT := Lib.hid ht
  clear hd hsm ht
  have hb1 := below2 w (.cells #[.int .i64 kx, .string tx, .bool nx, .slice xo xn xc, .slice yo yn yc, .int .i64 ax, .slice po pn pc, .slice qo qn qc] 28) (.cells #[.int .i64 0, .string ⟨#[]⟩, .bool false, .slice none 0 0, .slice none 0 0, .int .i64 0] 40)
  have hn1 := @newsd2 w (.cells #[.int .i64 kx, .string tx, .bool nx, .slice xo xn xc, .slice yo yn yc, .int .i64 ax, .slice po pn pc, .slice qo qn qc] 28) (.cells #[.int .i64 0, .string ⟨#[]⟩, .bool false, .slice none 0 0, .slice none 0 0, .int .i64 0] 40)
  show Calls Tryd.prog 10 #[.agg #[.int .i64 kx, .string tx, .bool nx, .slice xo xn xc, .slice yo yn yc, .int .i64 ax, .slice po pn pc, .slice qo qn qc]] w _
  go_enter Tryd.func10, Tryd.ntmps10
  go_upto_region 1 with fail
  generalize (w.alloc (.cells #[.int .i64 kx, .string tx, .bool nx, .slice xo xn xc, .slice yo yn yc, .int .i64 ax, .slice po pn pc, .slice qo qn qc] 28)).alloc (.cells #[.int .i64 0, .string ⟨#[]⟩, .bool false, .slice none 0 0, .slice none 0 0, .int .i64 0] 40) = w1 at *
  have HB1 := Lib.hid hb1
  have HN1 := Lib.hid hn1.1
  have HM1 := Lib.hid hn1.2
  clear hb1 hn1
  obtain ⟨c0, c1, c2, c3, c4, c5, c6, c7⟩ := rowS8 HN1.out
  go_wp2_with fail
  refine (xsound_any D _ w1 (HD.out.keep HB1.out) HSM.out (HT.out.below HB1.out (Nat.le_refl _))).mono ?_
  rintro e w2 ⟨rfl, hb2⟩
  have HB2 := Lib.hid (HB1.out.trans (hb2.mono HB1.out.size))
  have HN2 := Lib.hid ((hb2.block _ (Array.getElem?_eq_some_iff.1 HN1.out).1).trans HN1.out)
  have HM2 := Lib.hid ((hb2.block _ (Array.getElem?_eq_some_iff.1 HM1.out).1).trans HM1.out)
  clear hb2 c0 c1 c2 c3 c4 c5 c6 c7
  cases hs : sndX D with
  | false =>
    clear hs
    have y0 := frozen_heap HM2.out 0
    have y1 := frozen_heap HM2.out 1
    have y2 := frozen_heap HM2.out 2
    have y3 := frozen_heap HM2.out 3
    have y4 := frozen_heap HM2.out 4
    have y5 := frozen_heap HM2.out 5
    obtain ⟨d0, d1, d2, d3, d4, d5⟩ := row6d HM2.out
    have hrow := put6w_row HM2.out (.int .i64 0) (.string ⟨#[]⟩) (.bool false) (.slice none 0 0) (.slice none 0 0) (.int .i64 0)
    have hbf := put6w_below' HB2.out (show w.heap.size ≤ w.heap.size + 1 by omega) (.int .i64 0) (.string ⟨#[]⟩) (.bool false) (.slice none 0 0) (.slice none 0 0) (.int .i64 0)
    have HF := Lib.hid (And.intro hrow hbf)
    clear hrow hbf
    go_wp2_with fail
    clear d0 d1 d2 d3 d4 d5 y0 y1 y2 y3 y4 y5
    unfold put6w at HF
    generalize World.setCell _ ⟨w.heap.size + 1, 5, none⟩ (.int .i64 0) = W9 at *
    obtain ⟨g0, g1, g2, g3, g4, g5⟩ := row6d HF.out.1
    refine bodyPost_ret (v := .tuple #[.agg #[.int .i64 0, .string ⟨#[]⟩, .bool false, .slice none 0 0, .slice none 0 0, .int .i64 0], .int .i64 2]) (by simp [results, Tryd.results10, go_sem, g0, g1, g2, g3, g4, g5]) rfl ?_
    exact ⟨_, _, _, _, _, _, _, _, _, _, _, rfl, Ro.nil _ _, HF.out.2⟩
  | true =>
    clear hs
    obtain ⟨c0, c1, c2, c3, c4, c5, c6, c7⟩ := rowS8 HN2.out
    go_wp2_with fail
    refine (datumO_any D HSM.out _ w2 (HD.out.keep HB2.out)).mono ?_
    rintro e w3 ⟨y0, y1, y2, ro, rn, rc, so, sn, sc, y5, rfl, hly3, hb3⟩
    have HB3 := Lib.hid (HB2.out.trans (hb3.mono HB2.out.size))
    have HM3 := Lib.hid ((hb3.block _ (Array.getElem?_eq_some_iff.1 HM2.out).1).trans HM2.out)
    have HLE : Hid (w.heap.size + 1 < w2.heap.size) := Lib.hid (Array.getElem?_eq_some_iff.1 HM2.out).1
    have HL3 := Lib.hid hly3
    clear hb3 hly3 c0 c1 c2 c3 c4 c5 c6 c7
    have z0 := frozen_heap HM3.out 0
    have z1 := frozen_heap HM3.out 1
    have z2 := frozen_heap HM3.out 2
    have z3 := frozen_heap HM3.out 3
    have z4 := frozen_heap HM3.out 4
    have z5 := frozen_heap HM3.out 5
    obtain ⟨d0, d1, d2, d3, d4, d5⟩ := row6d HM3.out
    have hrow := put6w_row HM3.out (.int .i64 y0) (.string y1) (.bool y2) (.slice ro rn rc) (.slice so sn sc) (.int .i64 y5)
    have hkp := put6w_keep (fun b => w2.heap.size ≤ b) w3 (w.heap.size + 1) (by have := HLE.out; omega) (.int .i64 y0) (.string y1) (.bool y2) (.slice ro rn rc) (.slice so sn sc) (.int .i64 y5)
    have hbf := put6w_below' HB3.out (show w.heap.size ≤ w.heap.size + 1 by omega) (.int .i64 y0) (.string y1) (.bool y2) (.slice ro rn rc) (.slice so sn sc) (.int .i64 y5)
    have HF := Lib.hid (And.intro hrow (And.intro (HL3.out.keep hkp (fun b hb => hb)) hbf))
    clear hrow hkp hbf
    go_wp2_with fail
    clear d0 d1 d2 d3 d4 d5 z0 z1 z2 z3 z4 z5
    unfold put6w at HF
    generalize World.setCell _ ⟨w.heap.size + 1, 5, none⟩ (.int .i64 y5) = W9 at *
    obtain ⟨g0, g1, g2, g3, g4, g5⟩ := row6d HF.out.1
    refine bodyPost_ret (v := .tuple #[.agg #[.int .i64 y0, .string y1, .bool y2, .slice ro rn rc, .slice so sn sc, .int .i64 y5], .int .i64 0]) (by simp [results, Tryd.results10, go_sem, g0, g1, g2, g3, g4, g5]) rfl ?_
    exact ⟨_, _, _, _, _, _, _, _, _, _, _, rfl, HF.out.2.1.base HB2.out.size, HF.out.2.2⟩

end Go.Proofs.YtbfcbicbeagjkaaDoor
