/- The looker: a look at a pair. -/
import Derived.Test.YtimnhbndokfgnaaSmEnter
import Derived.Test.YtimnhbndokfgnaaSmCmp2
namespace Go.Proofs.Ytimnhbndokfgnaa
open Go.RowKit

/-- What a look leaves. -/
def LookP (w0 : World) (lb g : Nat) (R : Nat → Nat) (s : St) (F : Nat) (p0 q : Pr) (f : Nat) (ov : Value) (mb : Nat) (vs : List Vis) (tk : Pr → Option Int) (e : Ending) (w' : World) : Prop :=
  (e = .returned (.tuple #[.bool true, .int .i64 0]) ∧ ∃ f', f' ≤ f ∧ LkM w0 w' lb g R s (f' : Nat) ov mb vs tk ∧ s.Inv F p0 f' vs tk) ∨
  (e = .returned (.tuple #[.bool true, .int .i64 0]) ∧ ∃ f' ov', f = f' + 1 ∧ LkM w0 w' lb g R s (f' : Nat) ov' mb (⟨q, s.len q.1, 0, f⟩ :: vs) (putT tk q 9223372036854775807) ∧ s.Inv F p0 f' (⟨q, s.len q.1, 0, f⟩ :: vs) (putT tk q 9223372036854775807)) ∨
  (e = .returned (.tuple #[.bool false, .int .i64 0]) ∧ ∃ f', s.rEq F [p0] = some (false, f') ∧ LkM w0 w' lb g R s (f' : Nat) ov mb vs tk) ∨
  (e = .returned (.tuple #[.bool false, .int .i64 15]) ∧ s.rEq F [p0] = none ∧ Below w0.heap.size w0 w')

set_option maxRecDepth 100000 in
set_option maxHeartbeats 4000000 in
theorem look_any (w0 w : World) (lb g : Nat) (R : Nat → Nat) (s : St) (F : Nat) (p0 q : Pr) (f : Nat) (ov : Value) (mb : Nat) (vs : List Vis) (tk : Pr → Option Int) (h : LkM w0 w lb g R s (f : Nat) ov mb vs tk) (hp : s.Pend F p0 q f vs tk) (hf : f + vs.length ≤ 1000000) :
    Calls Try.prog 79 #[.pointer (some ⟨lb, 0, none⟩), pk q] w fun e w' => LookP w0 lb g R s F p0 q f ov mb vs tk e w' := by
  obtain ⟨⟨a0, a1⟩, a2, a3⟩ := q
  obtain ⟨E, hE⟩ : ∃ E, E = s.eqvA (a0, a1) (a2, a3) := ⟨_, rfl⟩
  have HEQ : Hid (∀ W, StW W g R s → Calls Try.prog 32 #[.pointer (some ⟨g, 0, none⟩), .agg #[.int .i64 a0, .int .i64 a1], .agg #[.int .i64 a2, .int .i64 a3]] W fun e w' => e = .returned (.bool E) ∧ Below W.heap.size W w') := Lib.hid fun W hW => by rw [hE]; exact eqv_any g R s (a0, a1) (a2, a3) W hW
  obtain ⟨M, hM⟩ : ∃ M, M = s.compA (a0, a1) (a2, a3) := ⟨_, rfl⟩
  have HCM : Hid (∀ W, LkM w0 W lb g R s (f : Nat) ov mb vs tk → Calls Try.prog 84 #[.pointer (some ⟨lb, 0, none⟩), .agg #[.int .i64 a0, .int .i64 a1, .int .i64 a2, .int .i64 a3]] W fun e w' => e = .returned (.bool M) ∧ Below W.heap.size W w') := Lib.hid fun W hW => by rw [hM]; exact comparable_any g lb R s (a0, a1) (a2, a3) W hW.st hW.lt hW.cells.1.1
  have HE := Lib.hid hE
  have HM := Lib.hid hM
  have HP := Lib.hid hp
  have HF := Lib.hid hf
  have hb1 := below1 w (.cells #[.int .i64 a0, .int .i64 a1, .int .i64 a2, .int .i64 a3] 126)
  have HM1 := Lib.hid (h.below hb1)
  have HN0 := Lib.hid (box1 w #[.int .i64 a0, .int .i64 a1, .int .i64 a2, .int .i64 a3] 126)
  clear h hb1 hE hM hp hf
  unfold pk
  go_enter Try.func79, Try.ntmps79
  go_upto_region 1 with fail
  generalize w.alloc (.cells #[.int .i64 a0, .int .i64 a1, .int .i64 a2, .int .i64 a3] 126) = w1 at *
  generalize w.heap.size = pb at *
  obtain ⟨⟨c0, c1, c2, c3⟩, z1, z2⟩ := HM1.out.cells
  cases f with
  | zero =>
    have hle : (((0 : Nat) : Int)) ≤ 0 := by omega
    go_wp2_with fail
    go_ret2
    exact .inr (.inr (.inr ⟨rfl, HP.out.out, HM1.out.bel⟩))
  | succ f =>
    have hle : ¬ (((f + 1 : Nat) : Int)) ≤ 0 := by omega
    have hfb : f ≤ 999999 := by have := HF.out; omega
    go_upto_region 3 with fail
    clear hle c0 c1 c2 c3 z1 z2
    have HX : Hid (∀ W, Below w1.heap.size w1 W → W.cell? ⟨lb, 0, none⟩ = some (.pointer (some ⟨g, 0, none⟩)) ∧ W.cell? ⟨pb, 0, none⟩ = some (.int .i64 a0) ∧ W.cell? ⟨pb, 1, none⟩ = some (.int .i64 a1) ∧ W.cell? ⟨pb, 2, none⟩ = some (.int .i64 a2) ∧ W.cell? ⟨pb, 3, none⟩ = some (.int .i64 a3)) := Lib.hid fun W hW => ⟨(HM1.out.below hW).cells.1.1, row4 ((hW.block pb (Array.getElem?_eq_some_iff.1 HN0.out).1).trans HN0.out)⟩
    refine wp_region_slotsG (psi [isV (.pointer (some ⟨lb, 0, none⟩)), isV (.pointer (some ⟨lb, 0, none⟩)), isV (.pointer (some ⟨lb, 0, none⟩)), isV (.pointer (some ⟨g, 0, none⟩)), isV (.pointer (some ⟨pb, 0, none⟩)), isV (.agg #[.int .i64 a0, .int .i64 a1]), isV (.pointer (some ⟨pb, 2, none⟩)), isV (.agg #[.int .i64 a2, .int .i64 a3]), isV (.bool E)]) (fun W => Below w1.heap.size w1 W) (by kernel_rfl) (Below.refl _ _).drew (psi_mono ?_) (by kernel_rfl) (by kernel_rfl) ?_ ?_
    · intro p hp
      simp only [List.mem_cons, List.not_mem_nil, or_false] at hp
      (repeat' rcases hp with rfl | hp) <;> first | exact isV_stays _ | (subst hp; exact isV_stays _)
    · refine AllOps.cons ?_ ?_
      · intro aa W hC hB hdep
        refine .inl ⟨rfl, ?_⟩
        have b0 : aa.tmps.getD 0 undef = .pointer (some ⟨lb, 0, none⟩) := hB.off 0 (by kernel_rfl)
        refine goes_value (v := .pointer (some ⟨lb, 0, none⟩)) ?_ hC rfl
        simp only [execOp, Act.eval, b0]
        go_simp
      refine AllOps.cons ?_ ?_
      · intro aa W hC hB hdep
        refine .inl ⟨rfl, ?_⟩
        obtain ⟨x0, (q0 : x0 = .pointer (some ⟨lb, 0, none⟩)), e0⟩ := hdep 0 13 (by kernel_rfl)
        subst q0
        refine goes_value (v := .pointer (some ⟨lb, 0, none⟩)) ?_ hC rfl
        simp only [execOp, Act.eval, e0]
        go_simp
      refine AllOps.cons ?_ ?_
      · intro aa W hC hB hdep
        refine .inl ⟨rfl, ?_⟩
        obtain ⟨x0, (q0 : x0 = .pointer (some ⟨lb, 0, none⟩)), e0⟩ := hdep 1 14 (by kernel_rfl)
        subst q0
        refine goes_value (v := .pointer (some ⟨lb, 0, none⟩)) ?_ hC rfl
        simp only [execOp, Act.eval, e0]
        go_simp
      refine AllOps.cons ?_ ?_
      · intro aa W hC hB hdep
        refine .inl ⟨rfl, ?_⟩
        obtain ⟨x0, (q0 : x0 = .pointer (some ⟨lb, 0, none⟩)), e0⟩ := hdep 2 15 (by kernel_rfl)
        subst q0
        obtain ⟨c0, p0, p1, p2, p3⟩ := HX.out W hC
        refine goes_value (v := .pointer (some ⟨g, 0, none⟩)) ?_ hC rfl
        simp only [execOp, Act.eval, e0]
        go_simp
      refine AllOps.cons ?_ ?_
      · intro aa W hC hB hdep
        refine .inl ⟨rfl, ?_⟩
        have b0 : aa.tmps.getD 3 undef = .pointer (some ⟨pb, 0, none⟩) := hB.off 3 (by kernel_rfl)
        refine goes_value (v := .pointer (some ⟨pb, 0, none⟩)) ?_ hC rfl
        simp only [execOp, Act.eval, b0]
        go_simp
      refine AllOps.cons ?_ ?_
      · intro aa W hC hB hdep
        refine .inl ⟨rfl, ?_⟩
        obtain ⟨x0, (q0 : x0 = .pointer (some ⟨pb, 0, none⟩)), e0⟩ := hdep 4 17 (by kernel_rfl)
        subst q0
        obtain ⟨c0, p0, p1, p2, p3⟩ := HX.out W hC
        refine goes_value (v := .agg #[.int .i64 a0, .int .i64 a1]) ?_ hC rfl
        simp only [execOp, Act.eval, e0]
        go_simp
      refine AllOps.cons ?_ ?_
      · intro aa W hC hB hdep
        refine .inl ⟨rfl, ?_⟩
        have b0 : aa.tmps.getD 3 undef = .pointer (some ⟨pb, 0, none⟩) := hB.off 3 (by kernel_rfl)
        refine goes_value (v := .pointer (some ⟨pb, 2, none⟩)) ?_ hC rfl
        simp only [execOp, Act.eval, b0]
        go_simp
      refine AllOps.cons ?_ ?_
      · intro aa W hC hB hdep
        refine .inl ⟨rfl, ?_⟩
        obtain ⟨x0, (q0 : x0 = .pointer (some ⟨pb, 2, none⟩)), e0⟩ := hdep 6 19 (by kernel_rfl)
        subst q0
        obtain ⟨c0, p0, p1, p2, p3⟩ := HX.out W hC
        refine goes_value (v := .agg #[.int .i64 a2, .int .i64 a3]) ?_ hC rfl
        simp only [execOp, Act.eval, e0]
        go_simp
      refine AllOps.cons ?_ ?_
      · intro aa W hC hB hdep
        refine .inl ⟨rfl, ?_⟩
        obtain ⟨x0, (q0 : x0 = .pointer (some ⟨g, 0, none⟩)), e0⟩ := hdep 3 16 (by kernel_rfl)
        subst q0
        obtain ⟨x1, (q1 : x1 = .agg #[.int .i64 a0, .int .i64 a1]), e1⟩ := hdep 5 18 (by kernel_rfl)
        subst q1
        obtain ⟨x2, (q2 : x2 = .agg #[.int .i64 a2, .int .i64 a3]), e2⟩ := hdep 7 20 (by kernel_rfl)
        subst q2
        refine goes_call (f := 32) (args := #[.pointer (some ⟨g, 0, none⟩), .agg #[.int .i64 a0, .int .i64 a1], .agg #[.int .i64 a2, .int .i64 a3]]) ?_ ?_
        · simp only [execOp]
          go_simp
        · exact (HEQ.out W (HM1.out.st.below hC)).mono fun e w7 ⟨he, hb⟩ => ⟨_, he, hC.trans (hb.mono hC.size), hb, rfl⟩
      exact trivial
    · intro aa w8 hC hB hall
      have hv : ∀ p ∈ [((13 : Nat), (.pointer (some ⟨lb, 0, none⟩) : Value)), ((14 : Nat), (.pointer (some ⟨lb, 0, none⟩) : Value)), ((15 : Nat), (.pointer (some ⟨lb, 0, none⟩) : Value)), ((16 : Nat), (.pointer (some ⟨g, 0, none⟩) : Value)), ((17 : Nat), (.pointer (some ⟨pb, 0, none⟩) : Value)), ((18 : Nat), (.agg #[.int .i64 a0, .int .i64 a1] : Value)), ((19 : Nat), (.pointer (some ⟨pb, 2, none⟩) : Value)), ((20 : Nat), (.agg #[.int .i64 a2, .int .i64 a3] : Value)), ((21 : Nat), (.bool E : Value))], aa.tmps.getD p.1 undef = p.2 := by
        obtain ⟨_, (k0 : _ = _), e0⟩ := hall 0 _ rfl
        obtain ⟨_, (k1 : _ = _), e1⟩ := hall 1 _ rfl
        obtain ⟨_, (k2 : _ = _), e2⟩ := hall 2 _ rfl
        obtain ⟨_, (k3 : _ = _), e3⟩ := hall 3 _ rfl
        obtain ⟨_, (k4 : _ = _), e4⟩ := hall 4 _ rfl
        obtain ⟨_, (k5 : _ = _), e5⟩ := hall 5 _ rfl
        obtain ⟨_, (k6 : _ = _), e6⟩ := hall 6 _ rfl
        obtain ⟨_, (k7 : _ = _), e7⟩ := hall 7 _ rfl
        obtain ⟨_, (k8 : _ = _), e8⟩ := hall 8 _ rfl
        subst k0 k1 k2 k3 k4 k5 k6 k7 k8
        intro p hp
        simp only [List.mem_cons, List.not_mem_nil, or_false] at hp
        rcases hp with rfl | rfl | rfl | rfl | rfl | rfl | rfl | rfl | rfl
        · exact e0 _ rfl
        · exact e1 _ rfl
        · exact e2 _ rfl
        · exact e3 _ rfl
        · exact e4 _ rfl
        · exact e5 _ rfl
        · exact e6 _ rfl
        · exact e7 _ rfl
        · exact e8 _ rfl
      have hact := act_fold _ hB hv (by kernel_rfl)
      subst hact
      clear hv hall hB
      refine (‹∀ (a : Act) (w : World), Code.wp Try.prog _ _ a w → _›) _ w8 ?_
      simp only [List.foldl, List.setIfInBounds_toArray, List.set_cons_succ, List.set_cons_zero]
      have HM2 := Lib.hid (HM1.out.below hC)
      have HN2 := Lib.hid ((hC.block pb (Array.getElem?_eq_some_iff.1 HN0.out).1).trans HN0.out)
      clear hC
      obtain ⟨⟨c0, c1, c2, c3⟩, z1, z2⟩ := HM2.out.cells
      cases E with
      | true =>
        go_wp2_with fail
        go_ret2
        exact .inl ⟨rfl, f, by omega, HM2.out.fuel _, HP.out.eqv HE.out.symm⟩
      | false =>
        obtain ⟨p0, p1, p2, p3⟩ := row4 HN2.out
        go_wp2_with fail
        refine (HCM.out w8 HM2.out).mono ?_
        rintro e w3 ⟨rfl, hb3⟩
        have HM3 := Lib.hid (HM2.out.below hb3)
        have HN3 := Lib.hid ((hb3.block pb (Array.getElem?_eq_some_iff.1 HN2.out).1).trans HN2.out)
        clear hb3 c0 c1 c2 c3 z1 z2 p0 p1 p2 p3
        obtain ⟨⟨c0, c1, c2, c3⟩, z1, z2⟩ := HM3.out.cells
        cases M with
        | false =>
          go_wp2_with fail
          go_ret2
          exact .inr (.inr (.inl ⟨rfl, f, HP.out.no HE.out.symm HM.out.symm, HM3.out.fuel _⟩))
        | true =>
          obtain ⟨p0, p1, p2, p3⟩ := row4 HN3.out
          have hdr : Below w3.heap.size w3 w3.drew := (Below.refl w3.heap.size w3).drew
          have HM4 := Lib.hid (HM3.out.below hdr)
          have HN4 := Lib.hid ((hdr.block pb (Array.getElem?_eq_some_iff.1 HN3.out).1).trans HN3.out)
          have hlk := HM4.out.map.look ((a0, a1), (a2, a3))
          clear hdr
          unfold pk at hlk
          rcases hlk with ⟨htk, hrun⟩ | ⟨c, htk, hrun⟩
          · have HTK := Lib.hid htk
            clear htk
            go_wp2_with fail
            go_region
            clear hrun c0 c1 c2 c3 z1 z2 p0 p1 p2 p3
            obtain ⟨⟨c0, c1, c2, c3⟩, z1, z2⟩ := HM4.out.cells
            obtain ⟨p0, p1, p2, p3⟩ := row4 HN4.out
            generalize w3.drew = w4 at *
            go_wp2_with fail
            refine (enter_any w0 w4 lb g R s f ov mb vs tk ((a0, a1), (a2, a3)) HM4.out (by have := HF.out; omega)).mono ?_
            rintro e w5 ⟨rfl, ov', hm5⟩
            have HM5 := Lib.hid hm5
            clear hm5 c0 c1 c2 c3 z1 z2 p0 p1 p2 p3
            go_wp2_with fail
            go_ret2
            exact .inr (.inl ⟨rfl, f, ov', rfl, HM5.out, HP.out.enter HE.out.symm HM.out.symm⟩)
          · have hmet := HP.out.met (by have := HF.out; omega) htk
            have HMT := Lib.hid hmet
            clear htk hmet
            go_wp2_with fail
            go_region
            clear hrun c0 c1 c2 c3 z1 z2 p0 p1 p2 p3
            obtain ⟨⟨c0, c1, c2, c3⟩, z1, z2⟩ := HM4.out.cells
            generalize w3.drew = w4 at *
            by_cases hlt : (((f + 1 : Nat) : Int)) < c
            · go_wp2_with fail
              go_ret2
              exact .inr (.inr (.inr ⟨rfl, HMT.out.1 hlt, HM4.out.bel⟩))
            · obtain ⟨k, rfl, f', hff, hinv⟩ := HMT.out.2 (by omega)
              have hkf : k ≤ f + 1 := by omega
              have HFF := Lib.hid hff
              have HINV := Lib.hid hinv
              clear hff hinv
              go_wp2_with fail
              go_ret2
              have e : ((f : Int) + 1 - (k : Int)) = ((f' : Nat) : Int) := by have := HFF.out; omega
              rw [e]
              exact .inl ⟨rfl, f', by have := HFF.out; omega, HM4.out.fuel _, HINV.out⟩
end Go.Proofs.Ytimnhbndokfgnaa
