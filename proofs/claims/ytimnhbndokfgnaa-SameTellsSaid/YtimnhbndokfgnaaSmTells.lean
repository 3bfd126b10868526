/- SameTells -/
import Derived.Test.YtimnhbndokfgnaaRsEq
import Derived.Test.YtimnhbndokfgnaaSmBuild
import Derived.Test.YtimnhbndokfgnaaSmLaw
import Derived.Test.YtimnhbndokfgnaaOrdG
namespace Go.Proofs.Ytimnhbndokfgnaa
open Go.RowKit

theorem tells_three (x : Option (Bool × Nat)) : (x = none) ∨ ∃ (r : Bool) (k : Nat), x = some (r, k) := by
  cases x with
  | none => exact .inl rfl
  | some p => exact .inr ⟨p.1, p.2, rfl⟩

set_option maxRecDepth 100000 in
set_option maxHeartbeats 16000000 in
theorem sametells_any (mv : Value) (a b : Int × Int) (z : Int) (es : List MkE) (w : World) (he : MksAt w mv es) :
    Calls Try.prog 6 #[mv, .agg #[.int .i64 a.1, .int .i64 a.2], .agg #[.int .i64 b.1, .int .i64 b.2], .int .i64 z] w fun e w' => e = .returned (.bool true) ∧ Below w.heap.size w w' := by
  obtain ⟨u0, u1⟩ := a
  obtain ⟨v0, v1⟩ := b
  simp only
  have HE := Lib.hid he
  have HB1 := Lib.hid (below2 w (.cells #[.int .i64 u0, .int .i64 u1] 35) (.cells #[.int .i64 v0, .int .i64 v1] 35))
  obtain ⟨n0, n1⟩ := @news2 w (.cells #[.int .i64 u0, .int .i64 u1] 35) (.cells #[.int .i64 v0, .int .i64 v1] 35)
  have HN0 := Lib.hid n0
  have HN1 := Lib.hid n1
  clear he n0 n1
  obtain ⟨F, hF⟩ : ∃ F : Int, F = if 3000 < z then 3000 else z := ⟨_, rfl⟩
  have HFF := Lib.hid (show F ≤ 3000 by rw [hF]; split <;> omega)
  rcases Int.lt_or_le 3000 z with hz | hz
  all_goals
    first | rw [if_pos hz] at hF | rw [if_neg (by omega)] at hF
    have HF := Lib.hid hF
    clear hF
    have hz' := hz
    go_enter Try.func6, Try.ntmps6
    go_upto_region 3 with fail
    generalize (w.alloc (.cells #[.int .i64 u0, .int .i64 u1] 35)).alloc (.cells #[.int .i64 v0, .int .i64 v1] 35) = w1 at *
    have HX : Hid (∀ W, Below w1.heap.size w1 W → W.cell? ⟨w.heap.size, 0, none⟩ = some (.int .i64 u0) ∧ W.cell? ⟨w.heap.size, 1, none⟩ = some (.int .i64 u1) ∧ W.cell? ⟨w.heap.size + 1, 0, none⟩ = some (.int .i64 v0) ∧ W.cell? ⟨w.heap.size + 1, 1, none⟩ = some (.int .i64 v1)) := Lib.hid fun W hW => by
      obtain ⟨x0, x1, _⟩ := row2 ((hW.block _ (Array.getElem?_eq_some_iff.1 HN0.out).1).trans HN0.out)
      obtain ⟨y0, y1, _⟩ := row2 ((hW.block _ (Array.getElem?_eq_some_iff.1 HN1.out).1).trans HN1.out)
      exact ⟨x0, x1, y0, y1⟩
    clear hz hz'
    go_wp2_with fail
    refine (built_any mv es w1 (HE.out.below HB1.out)).mono ?_
    rintro e w2 ⟨gs, gm, R, Q, s, rfl, ht, _⟩
    have HT2 := Lib.hid ht
    clear ht
    go_upto_region 4 with fail
    go_wp2_with fail
    refine (answers7_any w2).mono ?_
    rintro e w3 ⟨rfl, hb⟩
    have HT3 := Lib.hid (HT2.out.below hb)
    clear hb HT2
    obtain ⟨x, hx⟩ : ∃ x, s.rEq F.toNat [((u0, u1), (v0, v1))] = x := ⟨_, rfl⟩
    have c1 : ∀ W, Two w1 W gs gm R Q s s → Calls Try.prog 30 #[.pointer (some ⟨gs, 0, none⟩), .agg #[.int .i64 u0, .int .i64 u1], .agg #[.int .i64 v0, .int .i64 v1], .int .i64 F] W fun e w' => e = .returned (eqR x) ∧ Below W.heap.size W w' := fun W hq => qequal (a := (u0, u1)) (b := (v0, v1)) hq.st (by have := HFF.out; omega) hx
    have c2 : ∀ W, Two w1 W gs gm R Q s s → Calls Try.prog 31 #[.pointer (some ⟨gm, 0, none⟩), .agg #[.int .i64 u0, .int .i64 u1], .agg #[.int .i64 v0, .int .i64 v1], .int .i64 F] W fun e w' => e = .returned (rR x) ∧ Below W.heap.size W w' := fun W hq => by
      have := requal_any gm Q s (u0, u1) (v0, v1) F W hq.rs HFF.out
      rw [hx] at this
      exact this
    rw [HF.out] at c1 c2
    obtain ⟨E, hE⟩ : ∃ E, s.eqvA (u0, u1) (v0, v1) = E := ⟨_, rfl⟩
    have HE1 := Lib.hid (show ∀ W, Two w1 W gs gm R Q s s → Calls Try.prog 32 #[.pointer (some ⟨gs, 0, none⟩), .agg #[.int .i64 u0, .int .i64 u1], .agg #[.int .i64 v0, .int .i64 v1]] W fun e w' => e = .returned (.bool E) ∧ Below W.heap.size W w' from fun W hq => qeqv (a := (u0, u1)) (b := (v0, v1)) hq.st hE)
    have HE2 := Lib.hid (show ∀ W, Two w1 W gs gm R Q s s → Calls Try.prog 33 #[.pointer (some ⟨gm, 0, none⟩), .agg #[.int .i64 u0, .int .i64 u1], .agg #[.int .i64 v0, .int .i64 v1]] W fun e w' => e = .returned (.bool E) ∧ Below W.heap.size W w' from fun W hq => by rw [← hE]; exact reqv_any gm Q s (u0, u1) (v0, v1) W hq.rs)
    clear hx hE HF
    cases x with
    | none =>
      simp only [eqR, rR] at c1 c2
      have HC1 := Lib.hid c1
      have HC2 := Lib.hid c2
      clear c1 c2
      obtain ⟨p0, p1, p2, p3⟩ := HX.out w3 HT3.out.st.bel
      go_upto_region 6 with fail
      go_wp2_with fail
      refine (HC1.out w3 HT3.out).mono ?_
      rintro e w4 ⟨rfl, hb⟩
      have HT4 := Lib.hid (HT3.out.below hb)
      clear hb p0 p1 p2 p3
      obtain ⟨p0, p1, p2, p3⟩ := HX.out w4 HT4.out.st.bel
      go_upto_region 7 with fail
      go_wp2_with fail
      refine (HC2.out w4 HT4.out).mono ?_
      rintro e w5 ⟨rfl, hb⟩
      have HT5 := Lib.hid (HT4.out.below hb)
      clear hb p0 p1 p2 p3
      go_upto_region 8 with fail
      refine wp_region_slotsG (psi [isV (.pointer (some ⟨gs, 0, none⟩)), isV (.agg #[.int .i64 u0, .int .i64 u1]), isV (.agg #[.int .i64 v0, .int .i64 v1]), isV (.bool E), isV (.pointer (some ⟨gm, 0, none⟩)), isV (.agg #[.int .i64 u0, .int .i64 u1]), isV (.agg #[.int .i64 v0, .int .i64 v1]), isV (.bool E), isV (.bool false)]) (fun W => Below w5.heap.size w5 W) (by kernel_rfl) (Below.refl _ _).drew (psi_mono ?_) (by kernel_rfl) (by kernel_rfl) ?_ ?_
      · intro p hp
        simp only [List.mem_cons, List.not_mem_nil, or_false] at hp
        (repeat' rcases hp with rfl | hp) <;> first | exact isV_stays _ | (subst hp; exact isV_stays _)
      · refine AllOps.cons ?_ ?_
        · intro aa W hC hB hdep
          refine .inl ⟨rfl, ?_⟩
          have b0 : aa.tmps.getD 9 undef = .pointer (some ⟨gs, 0, none⟩) := hB.off 9 (by kernel_rfl)
          clear hB hdep
          refine goes_value (v := .pointer (some ⟨gs, 0, none⟩)) ?_ hC rfl
          simp only [execOp, Act.eval, b0]
          go_simp
        refine AllOps.cons ?_ ?_
        · intro aa W hC hB hdep
          refine .inl ⟨rfl, ?_⟩
          have b0 : aa.tmps.getD 5 undef = .pointer (some ⟨w.heap.size, 0, none⟩) := hB.off 5 (by kernel_rfl)
          obtain ⟨p0, p1, p2, p3⟩ := HX.out W (HT5.out.st.bel.trans (hC.mono HT5.out.st.bel.size))
          clear hB hdep
          refine goes_value (v := .agg #[.int .i64 u0, .int .i64 u1]) ?_ hC rfl
          simp only [execOp, Act.eval, b0]
          go_simp
        refine AllOps.cons ?_ ?_
        · intro aa W hC hB hdep
          refine .inl ⟨rfl, ?_⟩
          have b0 : aa.tmps.getD 6 undef = .pointer (some ⟨w.heap.size + 1, 0, none⟩) := hB.off 6 (by kernel_rfl)
          obtain ⟨p0, p1, p2, p3⟩ := HX.out W (HT5.out.st.bel.trans (hC.mono HT5.out.st.bel.size))
          clear hB hdep
          refine goes_value (v := .agg #[.int .i64 v0, .int .i64 v1]) ?_ hC rfl
          simp only [execOp, Act.eval, b0]
          go_simp
        refine AllOps.cons ?_ ?_
        · intro aa W hC hB hdep
          refine .inl ⟨rfl, ?_⟩
          obtain ⟨x0, (q0 : x0 = .pointer (some ⟨gs, 0, none⟩)), e0⟩ := hdep 0 46 (by kernel_rfl)
          subst q0
          obtain ⟨x1, (q1 : x1 = .agg #[.int .i64 u0, .int .i64 u1]), e1⟩ := hdep 1 47 (by kernel_rfl)
          subst q1
          obtain ⟨x2, (q2 : x2 = .agg #[.int .i64 v0, .int .i64 v1]), e2⟩ := hdep 2 48 (by kernel_rfl)
          subst q2
          clear hB hdep
          refine goes_call (f := 32) (args := #[.pointer (some ⟨gs, 0, none⟩), .agg #[.int .i64 u0, .int .i64 u1], .agg #[.int .i64 v0, .int .i64 v1]]) ?_ ?_
          · simp only [execOp]
            go_simp
          · exact (HE1.out W (HT5.out.below hC)).mono fun e w7 ⟨he, hb⟩ => ⟨_, he, hC.trans (hb.mono hC.size), hb, rfl⟩
        refine AllOps.cons ?_ ?_
        · intro aa W hC hB hdep
          refine .inl ⟨rfl, ?_⟩
          have b0 : aa.tmps.getD 10 undef = .pointer (some ⟨gm, 0, none⟩) := hB.off 10 (by kernel_rfl)
          clear hB hdep
          refine goes_value (v := .pointer (some ⟨gm, 0, none⟩)) ?_ hC rfl
          simp only [execOp, Act.eval, b0]
          go_simp
        refine AllOps.cons ?_ ?_
        · intro aa W hC hB hdep
          refine .inl ⟨rfl, ?_⟩
          have b0 : aa.tmps.getD 5 undef = .pointer (some ⟨w.heap.size, 0, none⟩) := hB.off 5 (by kernel_rfl)
          obtain ⟨p0, p1, p2, p3⟩ := HX.out W (HT5.out.st.bel.trans (hC.mono HT5.out.st.bel.size))
          clear hB hdep
          refine goes_value (v := .agg #[.int .i64 u0, .int .i64 u1]) ?_ hC rfl
          simp only [execOp, Act.eval, b0]
          go_simp
        refine AllOps.cons ?_ ?_
        · intro aa W hC hB hdep
          refine .inl ⟨rfl, ?_⟩
          have b0 : aa.tmps.getD 6 undef = .pointer (some ⟨w.heap.size + 1, 0, none⟩) := hB.off 6 (by kernel_rfl)
          obtain ⟨p0, p1, p2, p3⟩ := HX.out W (HT5.out.st.bel.trans (hC.mono HT5.out.st.bel.size))
          clear hB hdep
          refine goes_value (v := .agg #[.int .i64 v0, .int .i64 v1]) ?_ hC rfl
          simp only [execOp, Act.eval, b0]
          go_simp
        refine AllOps.cons ?_ ?_
        · intro aa W hC hB hdep
          refine .inl ⟨rfl, ?_⟩
          obtain ⟨x0, (q0 : x0 = .pointer (some ⟨gm, 0, none⟩)), e0⟩ := hdep 4 50 (by kernel_rfl)
          subst q0
          obtain ⟨x1, (q1 : x1 = .agg #[.int .i64 u0, .int .i64 u1]), e1⟩ := hdep 5 51 (by kernel_rfl)
          subst q1
          obtain ⟨x2, (q2 : x2 = .agg #[.int .i64 v0, .int .i64 v1]), e2⟩ := hdep 6 52 (by kernel_rfl)
          subst q2
          clear hB hdep
          refine goes_call (f := 33) (args := #[.pointer (some ⟨gm, 0, none⟩), .agg #[.int .i64 u0, .int .i64 u1], .agg #[.int .i64 v0, .int .i64 v1]]) ?_ ?_
          · simp only [execOp]
            go_simp
          · exact (HE2.out W (HT5.out.below hC)).mono fun e w7 ⟨he, hb⟩ => ⟨_, he, hC.trans (hb.mono hC.size), hb, rfl⟩
        refine AllOps.cons ?_ ?_
        · intro aa W hC hB hdep
          refine .inl ⟨rfl, ?_⟩
          obtain ⟨x0, (q0 : x0 = .bool E), e0⟩ := hdep 3 49 (by kernel_rfl)
          subst q0
          obtain ⟨x1, (q1 : x1 = .bool E), e1⟩ := hdep 7 53 (by kernel_rfl)
          subst q1
          clear hB hdep
          refine goes_value (v := .bool false) ?_ hC rfl
          simp only [execOp, Act.eval, e0, e1]
          go_simp
        exact trivial
      · intro aa w8 hC hB hall
        have hv : ∀ p ∈ [((46 : Nat), (.pointer (some ⟨gs, 0, none⟩) : Value)), ((47 : Nat), (.agg #[.int .i64 u0, .int .i64 u1] : Value)), ((48 : Nat), (.agg #[.int .i64 v0, .int .i64 v1] : Value)), ((49 : Nat), (.bool E : Value)), ((50 : Nat), (.pointer (some ⟨gm, 0, none⟩) : Value)), ((51 : Nat), (.agg #[.int .i64 u0, .int .i64 u1] : Value)), ((52 : Nat), (.agg #[.int .i64 v0, .int .i64 v1] : Value)), ((53 : Nat), (.bool E : Value)), ((54 : Nat), (.bool false : Value))], aa.tmps.getD p.1 undef = p.2 := by
          obtain ⟨_, (k0 : _ = _), e0⟩ := hall 0 _ rfl
          obtain ⟨_, (k1 : _ = _), e1⟩ := hall 1 _ rfl
          obtain ⟨_, (k2 : _ = _), e2⟩ := hall 2 _ rfl
          obtain ⟨_, (k3 : _ = _), e3⟩ := hall 3 _ rfl
          obtain ⟨_, (k4 : _ = _), e4⟩ := hall 4 _ rfl
          obtain ⟨_, (k5 : _ = _), e5⟩ := hall 5 _ rfl
          obtain ⟨_, (k6 : _ = _), e6⟩ := hall 6 _ rfl
          obtain ⟨_, (k7 : _ = _), e7⟩ := hall 7 _ rfl
          obtain ⟨_, (k8 : _ = _), e8⟩ := hall 8 _ rfl
          subst k0 k1 k2 k3 k4 k5 k6 k7 k8
          intro p hp
          simp only [List.mem_cons, List.not_mem_nil, or_false] at hp
          rcases hp with rfl | rfl | rfl | rfl | rfl | rfl | rfl | rfl | rfl
          · exact e0 _ rfl
          · exact e1 _ rfl
          · exact e2 _ rfl
          · exact e3 _ rfl
          · exact e4 _ rfl
          · exact e5 _ rfl
          · exact e6 _ rfl
          · exact e7 _ rfl
          · exact e8 _ rfl
        have hact := act_fold _ hB hv (by kernel_rfl)
        subst hact
        clear hv hall hB
        refine (‹∀ (a : Act) (w : World), Code.wp Try.prog _ _ a w → _›) _ w8 ?_
        simp only [List.foldl, List.setIfInBounds_toArray, List.set_cons_succ, List.set_cons_zero]
        have HT6 := Lib.hid (HT5.out.below hC)
        clear hC
        go_wp2_with fail
        go_ret
        exact ⟨rfl, HB1.out.trans (HT6.out.st.bel.mono HB1.out.size)⟩
    | some p =>
      obtain ⟨r, k⟩ := p
      simp only [eqR, rR] at c1 c2
      have HC1 := Lib.hid c1
      have HC2 := Lib.hid c2
      clear c1 c2
      obtain ⟨p0, p1, p2, p3⟩ := HX.out w3 HT3.out.st.bel
      go_upto_region 6 with fail
      go_wp2_with fail
      refine (HC1.out w3 HT3.out).mono ?_
      rintro e w4 ⟨rfl, hb⟩
      have HT4 := Lib.hid (HT3.out.below hb)
      clear hb p0 p1 p2 p3
      obtain ⟨p0, p1, p2, p3⟩ := HX.out w4 HT4.out.st.bel
      go_upto_region 7 with fail
      go_wp2_with fail
      refine (HC2.out w4 HT4.out).mono ?_
      rintro e w5 ⟨rfl, hb⟩
      have HT5 := Lib.hid (HT4.out.below hb)
      clear hb p0 p1 p2 p3
      go_upto_region 8 with fail
      refine wp_region_slotsG (psi [isV (.pointer (some ⟨gs, 0, none⟩)), isV (.agg #[.int .i64 u0, .int .i64 u1]), isV (.agg #[.int .i64 v0, .int .i64 v1]), isV (.bool E), isV (.pointer (some ⟨gm, 0, none⟩)), isV (.agg #[.int .i64 u0, .int .i64 u1]), isV (.agg #[.int .i64 v0, .int .i64 v1]), isV (.bool E), isV (.bool false)]) (fun W => Below w5.heap.size w5 W) (by kernel_rfl) (Below.refl _ _).drew (psi_mono ?_) (by kernel_rfl) (by kernel_rfl) ?_ ?_
      · intro p hp
        simp only [List.mem_cons, List.not_mem_nil, or_false] at hp
        (repeat' rcases hp with rfl | hp) <;> first | exact isV_stays _ | (subst hp; exact isV_stays _)
      · refine AllOps.cons ?_ ?_
        · intro aa W hC hB hdep
          refine .inl ⟨rfl, ?_⟩
          have b0 : aa.tmps.getD 9 undef = .pointer (some ⟨gs, 0, none⟩) := hB.off 9 (by kernel_rfl)
          clear hB hdep
          refine goes_value (v := .pointer (some ⟨gs, 0, none⟩)) ?_ hC rfl
          simp only [execOp, Act.eval, b0]
          go_simp
        refine AllOps.cons ?_ ?_
        · intro aa W hC hB hdep
          refine .inl ⟨rfl, ?_⟩
          have b0 : aa.tmps.getD 5 undef = .pointer (some ⟨w.heap.size, 0, none⟩) := hB.off 5 (by kernel_rfl)
          obtain ⟨p0, p1, p2, p3⟩ := HX.out W (HT5.out.st.bel.trans (hC.mono HT5.out.st.bel.size))
          clear hB hdep
          refine goes_value (v := .agg #[.int .i64 u0, .int .i64 u1]) ?_ hC rfl
          simp only [execOp, Act.eval, b0]
          go_simp
        refine AllOps.cons ?_ ?_
        · intro aa W hC hB hdep
          refine .inl ⟨rfl, ?_⟩
          have b0 : aa.tmps.getD 6 undef = .pointer (some ⟨w.heap.size + 1, 0, none⟩) := hB.off 6 (by kernel_rfl)
          obtain ⟨p0, p1, p2, p3⟩ := HX.out W (HT5.out.st.bel.trans (hC.mono HT5.out.st.bel.size))
          clear hB hdep
          refine goes_value (v := .agg #[.int .i64 v0, .int .i64 v1]) ?_ hC rfl
          simp only [execOp, Act.eval, b0]
          go_simp
        refine AllOps.cons ?_ ?_
        · intro aa W hC hB hdep
          refine .inl ⟨rfl, ?_⟩
          obtain ⟨x0, (q0 : x0 = .pointer (some ⟨gs, 0, none⟩)), e0⟩ := hdep 0 46 (by kernel_rfl)
          subst q0
          obtain ⟨x1, (q1 : x1 = .agg #[.int .i64 u0, .int .i64 u1]), e1⟩ := hdep 1 47 (by kernel_rfl)
          subst q1
          obtain ⟨x2, (q2 : x2 = .agg #[.int .i64 v0, .int .i64 v1]), e2⟩ := hdep 2 48 (by kernel_rfl)
          subst q2
          clear hB hdep
          refine goes_call (f := 32) (args := #[.pointer (some ⟨gs, 0, none⟩), .agg #[.int .i64 u0, .int .i64 u1], .agg #[.int .i64 v0, .int .i64 v1]]) ?_ ?_
          · simp only [execOp]
            go_simp
          · exact (HE1.out W (HT5.out.below hC)).mono fun e w7 ⟨he, hb⟩ => ⟨_, he, hC.trans (hb.mono hC.size), hb, rfl⟩
        refine AllOps.cons ?_ ?_
        · intro aa W hC hB hdep
          refine .inl ⟨rfl, ?_⟩
          have b0 : aa.tmps.getD 10 undef = .pointer (some ⟨gm, 0, none⟩) := hB.off 10 (by kernel_rfl)
          clear hB hdep
          refine goes_value (v := .pointer (some ⟨gm, 0, none⟩)) ?_ hC rfl
          simp only [execOp, Act.eval, b0]
          go_simp
        refine AllOps.cons ?_ ?_
        · intro aa W hC hB hdep
          refine .inl ⟨rfl, ?_⟩
          have b0 : aa.tmps.getD 5 undef = .pointer (some ⟨w.heap.size, 0, none⟩) := hB.off 5 (by kernel_rfl)
          obtain ⟨p0, p1, p2, p3⟩ := HX.out W (HT5.out.st.bel.trans (hC.mono HT5.out.st.bel.size))
          clear hB hdep
          refine goes_value (v := .agg #[.int .i64 u0, .int .i64 u1]) ?_ hC rfl
          simp only [execOp, Act.eval, b0]
          go_simp
        refine AllOps.cons ?_ ?_
        · intro aa W hC hB hdep
          refine .inl ⟨rfl, ?_⟩
          have b0 : aa.tmps.getD 6 undef = .pointer (some ⟨w.heap.size + 1, 0, none⟩) := hB.off 6 (by kernel_rfl)
          obtain ⟨p0, p1, p2, p3⟩ := HX.out W (HT5.out.st.bel.trans (hC.mono HT5.out.st.bel.size))
          clear hB hdep
          refine goes_value (v := .agg #[.int .i64 v0, .int .i64 v1]) ?_ hC rfl
          simp only [execOp, Act.eval, b0]
          go_simp
        refine AllOps.cons ?_ ?_
        · intro aa W hC hB hdep
          refine .inl ⟨rfl, ?_⟩
          obtain ⟨x0, (q0 : x0 = .pointer (some ⟨gm, 0, none⟩)), e0⟩ := hdep 4 50 (by kernel_rfl)
          subst q0
          obtain ⟨x1, (q1 : x1 = .agg #[.int .i64 u0, .int .i64 u1]), e1⟩ := hdep 5 51 (by kernel_rfl)
          subst q1
          obtain ⟨x2, (q2 : x2 = .agg #[.int .i64 v0, .int .i64 v1]), e2⟩ := hdep 6 52 (by kernel_rfl)
          subst q2
          clear hB hdep
          refine goes_call (f := 33) (args := #[.pointer (some ⟨gm, 0, none⟩), .agg #[.int .i64 u0, .int .i64 u1], .agg #[.int .i64 v0, .int .i64 v1]]) ?_ ?_
          · simp only [execOp]
            go_simp
          · exact (HE2.out W (HT5.out.below hC)).mono fun e w7 ⟨he, hb⟩ => ⟨_, he, hC.trans (hb.mono hC.size), hb, rfl⟩
        refine AllOps.cons ?_ ?_
        · intro aa W hC hB hdep
          refine .inl ⟨rfl, ?_⟩
          obtain ⟨x0, (q0 : x0 = .bool E), e0⟩ := hdep 3 49 (by kernel_rfl)
          subst q0
          obtain ⟨x1, (q1 : x1 = .bool E), e1⟩ := hdep 7 53 (by kernel_rfl)
          subst q1
          clear hB hdep
          refine goes_value (v := .bool false) ?_ hC rfl
          simp only [execOp, Act.eval, e0, e1]
          go_simp
        exact trivial
      · intro aa w8 hC hB hall
        have hv : ∀ p ∈ [((46 : Nat), (.pointer (some ⟨gs, 0, none⟩) : Value)), ((47 : Nat), (.agg #[.int .i64 u0, .int .i64 u1] : Value)), ((48 : Nat), (.agg #[.int .i64 v0, .int .i64 v1] : Value)), ((49 : Nat), (.bool E : Value)), ((50 : Nat), (.pointer (some ⟨gm, 0, none⟩) : Value)), ((51 : Nat), (.agg #[.int .i64 u0, .int .i64 u1] : Value)), ((52 : Nat), (.agg #[.int .i64 v0, .int .i64 v1] : Value)), ((53 : Nat), (.bool E : Value)), ((54 : Nat), (.bool false : Value))], aa.tmps.getD p.1 undef = p.2 := by
          obtain ⟨_, (k0 : _ = _), e0⟩ := hall 0 _ rfl
          obtain ⟨_, (k1 : _ = _), e1⟩ := hall 1 _ rfl
          obtain ⟨_, (k2 : _ = _), e2⟩ := hall 2 _ rfl
          obtain ⟨_, (k3 : _ = _), e3⟩ := hall 3 _ rfl
          obtain ⟨_, (k4 : _ = _), e4⟩ := hall 4 _ rfl
          obtain ⟨_, (k5 : _ = _), e5⟩ := hall 5 _ rfl
          obtain ⟨_, (k6 : _ = _), e6⟩ := hall 6 _ rfl
          obtain ⟨_, (k7 : _ = _), e7⟩ := hall 7 _ rfl
          obtain ⟨_, (k8 : _ = _), e8⟩ := hall 8 _ rfl
          subst k0 k1 k2 k3 k4 k5 k6 k7 k8
          intro p hp
          simp only [List.mem_cons, List.not_mem_nil, or_false] at hp
          rcases hp with rfl | rfl | rfl | rfl | rfl | rfl | rfl | rfl | rfl
          · exact e0 _ rfl
          · exact e1 _ rfl
          · exact e2 _ rfl
          · exact e3 _ rfl
          · exact e4 _ rfl
          · exact e5 _ rfl
          · exact e6 _ rfl
          · exact e7 _ rfl
          · exact e8 _ rfl
        have hact := act_fold _ hB hv (by kernel_rfl)
        subst hact
        clear hv hall hB
        refine (‹∀ (a : Act) (w : World), Code.wp Try.prog _ _ a w → _›) _ w8 ?_
        simp only [List.foldl, List.setIfInBounds_toArray, List.set_cons_succ, List.set_cons_zero]
        have HT6 := Lib.hid (HT5.out.below hC)
        clear hC
        have hk0 : ¬ ((k : Nat) : Int) < 0 := by omega
        cases r with
        | true =>
          go_wp2_with fail
          go_ret
          exact ⟨rfl, HB1.out.trans (HT6.out.st.bel.mono HB1.out.size)⟩
        | false =>
          go_wp2_with fail
          go_ret
          exact ⟨rfl, HB1.out.trans (HT6.out.st.bel.mono HB1.out.size)⟩
end Go.Proofs.Ytimnhbndokfgnaa
