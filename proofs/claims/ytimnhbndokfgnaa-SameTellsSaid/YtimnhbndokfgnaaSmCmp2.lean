/- The looker: which two it may look into, whichever they are. -/
import Derived.Test.YtimnhbndokfgnaaSmCmp
import Derived.Test.YtimnhbndokfgnaaOrdG
namespace Go.Proofs.Ytimnhbndokfgnaa
open Go.RowKit

set_option maxRecDepth 100000 in
set_option maxHeartbeats 4000000 in
theorem comparable_1 (g lb : Nat) (R : Nat → Nat) (s : St) (a b : Int × Int) (w : World) (h : StW w g R s) (hlb : lb < w.heap.size) (hc : w.cell? ⟨lb, 0, none⟩ = some (.pointer (some ⟨g, 0, none⟩))) (hkn : s.kind a = 1) :
    Calls Try.prog 84 #[.pointer (some ⟨lb, 0, none⟩), .agg #[.int .i64 a.1, .int .i64 a.2, .int .i64 b.1, .int .i64 b.2]] w fun e w' => e = .returned (.bool (s.compA a b)) ∧ Below w.heap.size w w' := by
  have HS := Lib.hid h
  have HB1 := Lib.hid (below1 w (.cells #[.int .i64 a.1, .int .i64 a.2, .int .i64 b.1, .int .i64 b.2] 126))
  have n0 := box1 w #[.int .i64 a.1, .int .i64 a.2, .int .i64 b.1, .int .i64 b.2] 126
  have HN0 := Lib.hid n0
  obtain ⟨p0, p1, p2, p3⟩ := row4 n0
  have c0 := (HB1.out.cell (p := ⟨lb, 0, none⟩) hlb).trans hc
  have HC := Lib.hid hc
  have HLB := Lib.hid hlb
  obtain ⟨ka, hka⟩ : ∃ ka, ka = s.kind a := ⟨_, rfl⟩
  obtain ⟨kb, hkb⟩ : ∃ kb, kb = s.kind b := ⟨_, rfl⟩
  obtain ⟨la, hla⟩ : ∃ la, la = s.len a := ⟨_, rfl⟩
  obtain ⟨nb, hnb⟩ : ∃ nb, nb = s.len b := ⟨_, rfl⟩
  have HKA : Hid (∀ W, StW W g R s → Calls Try.prog 26 #[.pointer (some ⟨g, 0, none⟩), .agg #[.int .i64 a.1, .int .i64 a.2]] W fun e w' => e = .returned (.int .i64 ka) ∧ Below W.heap.size W w') := Lib.hid fun W hW => by rw [hka]; exact stkind_any g R s a W hW
  have HKB : Hid (∀ W, StW W g R s → Calls Try.prog 26 #[.pointer (some ⟨g, 0, none⟩), .agg #[.int .i64 b.1, .int .i64 b.2]] W fun e w' => e = .returned (.int .i64 kb) ∧ Below W.heap.size W w') := Lib.hid fun W hW => by rw [hkb]; exact stkind_any g R s b W hW
  have HLA : Hid (∀ W, StW W g R s → Calls Try.prog 27 #[.pointer (some ⟨g, 0, none⟩), .agg #[.int .i64 a.1, .int .i64 a.2]] W fun e w' => e = .returned (.int .i64 ((la : Nat) : Int)) ∧ Below W.heap.size W w') := Lib.hid fun W hW => by rw [hla]; exact stlen_any g R s a W hW
  have HNB : Hid (∀ W, StW W g R s → Calls Try.prog 27 #[.pointer (some ⟨g, 0, none⟩), .agg #[.int .i64 b.1, .int .i64 b.2]] W fun e w' => e = .returned (.int .i64 ((nb : Nat) : Int)) ∧ Below W.heap.size W w') := Lib.hid fun W hW => by rw [hnb]; exact stlen_any g R s b W hW
  have HEKA := Lib.hid hka
  have HEKB := Lib.hid hkb
  have HELA := Lib.hid hla
  have HELB := Lib.hid hnb
  clear h n0 hc hka hkb hla hnb hlb
  go_enter Try.func84, Try.ntmps84
  go_upto_region 1 with fail
  generalize w.alloc (.cells #[.int .i64 a.1, .int .i64 a.2, .int .i64 b.1, .int .i64 b.2] 126) = w1 at *
  clear p0 p1 p2 p3 c0
  have HX1 : Hid (∀ W, Below w1.heap.size w1 W → W.cell? ⟨lb, 0, none⟩ = some (.pointer (some ⟨g, 0, none⟩)) ∧ W.cell? ⟨w.heap.size, 0, none⟩ = some (.int .i64 a.1) ∧ W.cell? ⟨w.heap.size, 1, none⟩ = some (.int .i64 a.2) ∧ W.cell? ⟨w.heap.size, 2, none⟩ = some (.int .i64 b.1) ∧ W.cell? ⟨w.heap.size, 3, none⟩ = some (.int .i64 b.2)) := Lib.hid fun W hW => ⟨(hW.cell (p := ⟨lb, 0, none⟩) (Nat.lt_of_lt_of_le HLB.out HB1.out.size)).trans ((HB1.out.cell (p := ⟨lb, 0, none⟩) HLB.out).trans HC.out), row4 ((hW.block _ (Array.getElem?_eq_some_iff.1 HN0.out).1).trans HN0.out)⟩
  refine wp_region_slotsG (psi [isV (.pointer (some ⟨lb, 0, none⟩)), isV (.pointer (some ⟨lb, 0, none⟩)), isV (.pointer (some ⟨lb, 0, none⟩)), isV (.pointer (some ⟨g, 0, none⟩)), isV (.pointer (some ⟨w.heap.size, 0, none⟩)), isV (.agg #[.int .i64 a.1, .int .i64 a.2]), isV (.int .i64 ka), isV (.int .i64 ka)]) (fun W => Below w1.heap.size w1 W) (by kernel_rfl) (Below.refl _ _).drew (psi_mono ?_) (by kernel_rfl) (by kernel_rfl) ?_ ?_
  · intro p hp
    simp only [List.mem_cons, List.not_mem_nil, or_false] at hp
    (repeat' rcases hp with rfl | hp) <;> first | exact isV_stays _ | (subst hp; exact isV_stays _)
  · refine AllOps.cons ?_ ?_
    · intro aa W hC hB hdep
      refine .inl ⟨rfl, ?_⟩
      have b0 : aa.tmps.getD 0 undef = .pointer (some ⟨lb, 0, none⟩) := hB.off 0 (by kernel_rfl)
      clear hB hdep
      refine goes_value (v := .pointer (some ⟨lb, 0, none⟩)) ?_ hC rfl
      simp only [execOp, Act.eval, b0]
      go_simp
    refine AllOps.cons ?_ ?_
    · intro aa W hC hB hdep
      refine .inl ⟨rfl, ?_⟩
      obtain ⟨x0, (q0 : x0 = .pointer (some ⟨lb, 0, none⟩)), e0⟩ := hdep 0 6 (by kernel_rfl)
      subst q0
      clear hB hdep
      refine goes_value (v := .pointer (some ⟨lb, 0, none⟩)) ?_ hC rfl
      simp only [execOp, Act.eval, e0]
      go_simp
    refine AllOps.cons ?_ ?_
    · intro aa W hC hB hdep
      refine .inl ⟨rfl, ?_⟩
      obtain ⟨x0, (q0 : x0 = .pointer (some ⟨lb, 0, none⟩)), e0⟩ := hdep 1 7 (by kernel_rfl)
      subst q0
      clear hB hdep
      refine goes_value (v := .pointer (some ⟨lb, 0, none⟩)) ?_ hC rfl
      simp only [execOp, Act.eval, e0]
      go_simp
    refine AllOps.cons ?_ ?_
    · intro aa W hC hB hdep
      refine .inl ⟨rfl, ?_⟩
      obtain ⟨x0, (q0 : x0 = .pointer (some ⟨lb, 0, none⟩)), e0⟩ := hdep 2 8 (by kernel_rfl)
      subst q0
      obtain ⟨c0, p0, p1, p2, p3⟩ := HX1.out W hC
      clear hB hdep
      refine goes_value (v := .pointer (some ⟨g, 0, none⟩)) ?_ hC rfl
      simp only [execOp, Act.eval, e0]
      go_simp
    refine AllOps.cons ?_ ?_
    · intro aa W hC hB hdep
      refine .inl ⟨rfl, ?_⟩
      have b0 : aa.tmps.getD 3 undef = .pointer (some ⟨w.heap.size, 0, none⟩) := hB.off 3 (by kernel_rfl)
      clear hB hdep
      refine goes_value (v := .pointer (some ⟨w.heap.size, 0, none⟩)) ?_ hC rfl
      simp only [execOp, Act.eval, b0]
      go_simp
    refine AllOps.cons ?_ ?_
    · intro aa W hC hB hdep
      refine .inl ⟨rfl, ?_⟩
      obtain ⟨x0, (q0 : x0 = .pointer (some ⟨w.heap.size, 0, none⟩)), e0⟩ := hdep 4 10 (by kernel_rfl)
      subst q0
      obtain ⟨c0, p0, p1, p2, p3⟩ := HX1.out W hC
      clear hB hdep
      refine goes_value (v := .agg #[.int .i64 a.1, .int .i64 a.2]) ?_ hC rfl
      simp only [execOp, Act.eval, e0]
      go_simp
    refine AllOps.cons ?_ ?_
    · intro aa W hC hB hdep
      refine .inl ⟨rfl, ?_⟩
      obtain ⟨x0, (q0 : x0 = .pointer (some ⟨g, 0, none⟩)), e0⟩ := hdep 3 9 (by kernel_rfl)
      subst q0
      obtain ⟨x1, (q1 : x1 = .agg #[.int .i64 a.1, .int .i64 a.2]), e1⟩ := hdep 5 11 (by kernel_rfl)
      subst q1
      clear hB hdep
      refine goes_call (f := 26) (args := #[.pointer (some ⟨g, 0, none⟩), .agg #[.int .i64 a.1, .int .i64 a.2]]) ?_ ?_
      · simp only [execOp]
        go_simp
      · exact (HKA.out W (HS.out.below (HB1.out.trans (hC.mono HB1.out.size)))).mono fun e w7 ⟨he, hb⟩ => ⟨_, he, hC.trans (hb.mono hC.size), hb, rfl⟩
    refine AllOps.cons ?_ ?_
    · intro aa W hC hB hdep
      refine .inl ⟨rfl, ?_⟩
      obtain ⟨x0, (q0 : x0 = .int .i64 ka), e0⟩ := hdep 6 12 (by kernel_rfl)
      subst q0
      clear hB hdep
      refine goes_value (v := .int .i64 ka) ?_ hC rfl
      simp only [execOp, Act.eval, e0]
      go_simp
    exact trivial
  · intro aa w8 hC hB hall
    have hv : ∀ p ∈ [((6 : Nat), (.pointer (some ⟨lb, 0, none⟩) : Value)), ((7 : Nat), (.pointer (some ⟨lb, 0, none⟩) : Value)), ((8 : Nat), (.pointer (some ⟨lb, 0, none⟩) : Value)), ((9 : Nat), (.pointer (some ⟨g, 0, none⟩) : Value)), ((10 : Nat), (.pointer (some ⟨w.heap.size, 0, none⟩) : Value)), ((11 : Nat), (.agg #[.int .i64 a.1, .int .i64 a.2] : Value)), ((12 : Nat), (.int .i64 ka : Value)), ((5 : Nat), (.int .i64 ka : Value))], aa.tmps.getD p.1 undef = p.2 := by
      obtain ⟨_, (k0 : _ = _), e0⟩ := hall 0 _ rfl
      obtain ⟨_, (k1 : _ = _), e1⟩ := hall 1 _ rfl
      obtain ⟨_, (k2 : _ = _), e2⟩ := hall 2 _ rfl
      obtain ⟨_, (k3 : _ = _), e3⟩ := hall 3 _ rfl
      obtain ⟨_, (k4 : _ = _), e4⟩ := hall 4 _ rfl
      obtain ⟨_, (k5 : _ = _), e5⟩ := hall 5 _ rfl
      obtain ⟨_, (k6 : _ = _), e6⟩ := hall 6 _ rfl
      obtain ⟨_, (k7 : _ = _), e7⟩ := hall 7 _ rfl
      subst k0 k1 k2 k3 k4 k5 k6 k7
      intro p hp
      simp only [List.mem_cons, List.not_mem_nil, or_false] at hp
      rcases hp with rfl | rfl | rfl | rfl | rfl | rfl | rfl | rfl
      · exact e0 _ rfl
      · exact e1 _ rfl
      · exact e2 _ rfl
      · exact e3 _ rfl
      · exact e4 _ rfl
      · exact e5 _ rfl
      · exact e6 _ rfl
      · exact e7 _ rfl
    have hact := act_fold _ hB hv (by kernel_rfl)
    subst hact
    clear hv hall hB
    refine (‹∀ (a : Act) (w : World), Code.wp Try.prog _ _ a w → _›) _ w8 ?_
    simp only [List.foldl, List.setIfInBounds_toArray, List.set_cons_succ, List.set_cons_zero]
    generalize w8 = w2 at *
    have HB2 := Lib.hid (HB1.out.trans (hC.mono HB1.out.size))
    have n2 := (hC.block w.heap.size (Array.getElem?_eq_some_iff.1 HN0.out).1).trans HN0.out
    have HN2 := Lib.hid n2
    obtain ⟨p0, p1, p2, p3⟩ := row4 n2
    have c0 := (HB2.out.cell (p := ⟨lb, 0, none⟩) HLB.out).trans HC.out
    have HXC : Hid (∀ W, Below w2.heap.size w2 W → W.cell? ⟨lb, 0, none⟩ = some (.pointer (some ⟨g, 0, none⟩)) ∧ W.cell? ⟨w.heap.size, 0, none⟩ = some (.int .i64 a.1) ∧ W.cell? ⟨w.heap.size, 1, none⟩ = some (.int .i64 a.2) ∧ W.cell? ⟨w.heap.size, 2, none⟩ = some (.int .i64 b.1) ∧ W.cell? ⟨w.heap.size, 3, none⟩ = some (.int .i64 b.2)) := Lib.hid fun W hW => ⟨(hW.cell (p := ⟨lb, 0, none⟩) (Nat.lt_of_lt_of_le HLB.out HB2.out.size)).trans c0, row4 ((hW.block _ (Array.getElem?_eq_some_iff.1 n2).1).trans n2)⟩
    clear hC n2
    obtain rfl : ka = 1 := by rw [HEKA.out]; exact hkn
    go_upto_region 7 with fail
    clear p0 p1 p2 p3 c0
    by_cases hkk : kb = 1
    · subst hkk
      refine wp_region_slotsG (psi [isV (.pointer (some ⟨lb, 0, none⟩)), isV (.pointer (some ⟨lb, 0, none⟩)), isV (.pointer (some ⟨lb, 0, none⟩)), isV (.pointer (some ⟨g, 0, none⟩)), isV (.pointer (some ⟨w.heap.size, 2, none⟩)), isV (.agg #[.int .i64 b.1, .int .i64 b.2]), isV (.int .i64 1), isV (.int .i64 1), isV (.bool true), isV (.bool true), isV (.pointer (some ⟨lb, 0, none⟩)), isV (.pointer (some ⟨lb, 0, none⟩)), isV (.pointer (some ⟨lb, 0, none⟩)), isV (.pointer (some ⟨g, 0, none⟩)), isV (.pointer (some ⟨w.heap.size, 0, none⟩)), isV (.agg #[.int .i64 a.1, .int .i64 a.2]), isV (.int .i64 ((la : Nat) : Int)), isV (.pointer (some ⟨lb, 0, none⟩)), isV (.pointer (some ⟨lb, 0, none⟩)), isV (.pointer (some ⟨lb, 0, none⟩)), isV (.pointer (some ⟨g, 0, none⟩)), isV (.pointer (some ⟨w.heap.size, 2, none⟩)), isV (.agg #[.int .i64 b.1, .int .i64 b.2]), isV (.int .i64 ((nb : Nat) : Int)), isV (.bool (((la : Nat) : Int) == ((nb : Nat) : Int))), isV (.bool (((la : Nat) : Int) == ((nb : Nat) : Int))), isV (.bool (((la : Nat) : Int) == ((nb : Nat) : Int)))]) (fun W => Below w2.heap.size w2 W) (by kernel_rfl) (Below.refl _ _).drew (psi_mono ?_) (by kernel_rfl) (by kernel_rfl) ?_ ?_
      · intro p hp
        simp only [List.mem_cons, List.not_mem_nil, or_false] at hp
        (repeat' rcases hp with rfl | hp) <;> first | exact isV_stays _ | (subst hp; exact isV_stays _)
      · refine AllOps.cons ?_ ?_
        · intro aa W hC hB hdep
          refine .inl ⟨rfl, ?_⟩
          have b0 : aa.tmps.getD 0 undef = .pointer (some ⟨lb, 0, none⟩) := hB.off 0 (by kernel_rfl)
          clear hB hdep
          refine goes_value (v := .pointer (some ⟨lb, 0, none⟩)) ?_ hC rfl
          simp only [execOp, Act.eval, b0]
          go_simp
        refine AllOps.cons ?_ ?_
        · intro aa W hC hB hdep
          refine .inl ⟨rfl, ?_⟩
          obtain ⟨x0, (q0 : x0 = .pointer (some ⟨lb, 0, none⟩)), e0⟩ := hdep 0 19 (by kernel_rfl)
          subst q0
          clear hB hdep
          refine goes_value (v := .pointer (some ⟨lb, 0, none⟩)) ?_ hC rfl
          simp only [execOp, Act.eval, e0]
          go_simp
        refine AllOps.cons ?_ ?_
        · intro aa W hC hB hdep
          refine .inl ⟨rfl, ?_⟩
          obtain ⟨x0, (q0 : x0 = .pointer (some ⟨lb, 0, none⟩)), e0⟩ := hdep 1 20 (by kernel_rfl)
          subst q0
          clear hB hdep
          refine goes_value (v := .pointer (some ⟨lb, 0, none⟩)) ?_ hC rfl
          simp only [execOp, Act.eval, e0]
          go_simp
        refine AllOps.cons ?_ ?_
        · intro aa W hC hB hdep
          refine .inl ⟨rfl, ?_⟩
          obtain ⟨x0, (q0 : x0 = .pointer (some ⟨lb, 0, none⟩)), e0⟩ := hdep 2 21 (by kernel_rfl)
          subst q0
          obtain ⟨c0, p0, p1, p2, p3⟩ := HXC.out W hC
          clear hB hdep
          refine goes_value (v := .pointer (some ⟨g, 0, none⟩)) ?_ hC rfl
          simp only [execOp, Act.eval, e0]
          go_simp
        refine AllOps.cons ?_ ?_
        · intro aa W hC hB hdep
          refine .inl ⟨rfl, ?_⟩
          have b0 : aa.tmps.getD 3 undef = .pointer (some ⟨w.heap.size, 0, none⟩) := hB.off 3 (by kernel_rfl)
          clear hB hdep
          refine goes_value (v := .pointer (some ⟨w.heap.size, 2, none⟩)) ?_ hC rfl
          simp only [execOp, Act.eval, b0]
          go_simp
        refine AllOps.cons ?_ ?_
        · intro aa W hC hB hdep
          refine .inl ⟨rfl, ?_⟩
          obtain ⟨x0, (q0 : x0 = .pointer (some ⟨w.heap.size, 2, none⟩)), e0⟩ := hdep 4 23 (by kernel_rfl)
          subst q0
          obtain ⟨c0, p0, p1, p2, p3⟩ := HXC.out W hC
          clear hB hdep
          refine goes_value (v := .agg #[.int .i64 b.1, .int .i64 b.2]) ?_ hC rfl
          simp only [execOp, Act.eval, e0]
          go_simp
        refine AllOps.cons ?_ ?_
        · intro aa W hC hB hdep
          refine .inl ⟨rfl, ?_⟩
          obtain ⟨x0, (q0 : x0 = .pointer (some ⟨g, 0, none⟩)), e0⟩ := hdep 3 22 (by kernel_rfl)
          subst q0
          obtain ⟨x1, (q1 : x1 = .agg #[.int .i64 b.1, .int .i64 b.2]), e1⟩ := hdep 5 24 (by kernel_rfl)
          subst q1
          clear hB hdep
          refine goes_call (f := 26) (args := #[.pointer (some ⟨g, 0, none⟩), .agg #[.int .i64 b.1, .int .i64 b.2]]) ?_ ?_
          · simp only [execOp]
            go_simp
          · exact (HKB.out W (HS.out.below (HB2.out.trans (hC.mono HB2.out.size)))).mono fun e w7 ⟨he, hb⟩ => ⟨_, he, hC.trans (hb.mono hC.size), hb, rfl⟩
        refine AllOps.cons ?_ ?_
        · intro aa W hC hB hdep
          refine .inl ⟨rfl, ?_⟩
          have b0 : aa.tmps.getD 5 undef = .int .i64 1 := hB.off 5 (by kernel_rfl)
          clear hB hdep
          refine goes_value (v := .int .i64 1) ?_ hC rfl
          simp only [execOp, Act.eval, b0]
          go_simp
        refine AllOps.cons ?_ ?_
        · intro aa W hC hB hdep
          refine .inl ⟨rfl, ?_⟩
          obtain ⟨x0, (q0 : x0 = .int .i64 1), e0⟩ := hdep 6 25 (by kernel_rfl)
          subst q0
          obtain ⟨x1, (q1 : x1 = .int .i64 1), e1⟩ := hdep 7 26 (by kernel_rfl)
          subst q1
          clear hB hdep
          refine goes_value (v := .bool true) ?_ hC rfl
          simp only [execOp, Act.eval, e0, e1]
          go_simp
        refine AllOps.cons ?_ ?_
        · intro aa W hC hB hdep
          refine .inl ⟨rfl, ?_⟩
          obtain ⟨x0, (q0 : x0 = .bool true), e0⟩ := hdep 8 27 (by kernel_rfl)
          subst q0
          clear hB hdep
          refine goes_value (v := .bool true) ?_ hC rfl
          simp only [execOp, Act.eval, e0]
          go_simp
        refine AllOps.cons ?_ ?_
        · intro aa W hC hB hdep
          obtain ⟨xg, (qg : xg = .bool true), eg⟩ := hdep 9 28 (by kernel_rfl)
          subst qg
          refine .inl ⟨(wanted_is (g := 9) (t := 28) (b := true) (c := true) rfl rfl (by rw [hB.size]; exact Nat.le_of_ble_eq_true rfl) eg).trans rfl, ?_⟩
          have b0 : aa.tmps.getD 0 undef = .pointer (some ⟨lb, 0, none⟩) := hB.off 0 (by kernel_rfl)
          clear hB hdep
          refine goes_value (v := .pointer (some ⟨lb, 0, none⟩)) ?_ hC rfl
          simp only [execOp, Act.eval, b0]
          go_simp
        refine AllOps.cons ?_ ?_
        · intro aa W hC hB hdep
          obtain ⟨xg, (qg : xg = .bool true), eg⟩ := hdep 9 28 (by kernel_rfl)
          subst qg
          refine .inl ⟨(wanted_is (g := 9) (t := 28) (b := true) (c := true) rfl rfl (by rw [hB.size]; exact Nat.le_of_ble_eq_true rfl) eg).trans rfl, ?_⟩
          obtain ⟨x0, (q0 : x0 = .pointer (some ⟨lb, 0, none⟩)), e0⟩ := hdep 10 29 (by kernel_rfl)
          subst q0
          clear hB hdep
          refine goes_value (v := .pointer (some ⟨lb, 0, none⟩)) ?_ hC rfl
          simp only [execOp, Act.eval, e0]
          go_simp
        refine AllOps.cons ?_ ?_
        · intro aa W hC hB hdep
          obtain ⟨xg, (qg : xg = .bool true), eg⟩ := hdep 9 28 (by kernel_rfl)
          subst qg
          refine .inl ⟨(wanted_is (g := 9) (t := 28) (b := true) (c := true) rfl rfl (by rw [hB.size]; exact Nat.le_of_ble_eq_true rfl) eg).trans rfl, ?_⟩
          obtain ⟨x0, (q0 : x0 = .pointer (some ⟨lb, 0, none⟩)), e0⟩ := hdep 11 30 (by kernel_rfl)
          subst q0
          clear hB hdep
          refine goes_value (v := .pointer (some ⟨lb, 0, none⟩)) ?_ hC rfl
          simp only [execOp, Act.eval, e0]
          go_simp
        refine AllOps.cons ?_ ?_
        · intro aa W hC hB hdep
          obtain ⟨xg, (qg : xg = .bool true), eg⟩ := hdep 9 28 (by kernel_rfl)
          subst qg
          refine .inl ⟨(wanted_is (g := 9) (t := 28) (b := true) (c := true) rfl rfl (by rw [hB.size]; exact Nat.le_of_ble_eq_true rfl) eg).trans rfl, ?_⟩
          obtain ⟨x0, (q0 : x0 = .pointer (some ⟨lb, 0, none⟩)), e0⟩ := hdep 12 31 (by kernel_rfl)
          subst q0
          obtain ⟨c0, p0, p1, p2, p3⟩ := HXC.out W hC
          clear hB hdep
          refine goes_value (v := .pointer (some ⟨g, 0, none⟩)) ?_ hC rfl
          simp only [execOp, Act.eval, e0]
          go_simp
        refine AllOps.cons ?_ ?_
        · intro aa W hC hB hdep
          obtain ⟨xg, (qg : xg = .bool true), eg⟩ := hdep 9 28 (by kernel_rfl)
          subst qg
          refine .inl ⟨(wanted_is (g := 9) (t := 28) (b := true) (c := true) rfl rfl (by rw [hB.size]; exact Nat.le_of_ble_eq_true rfl) eg).trans rfl, ?_⟩
          have b0 : aa.tmps.getD 3 undef = .pointer (some ⟨w.heap.size, 0, none⟩) := hB.off 3 (by kernel_rfl)
          clear hB hdep
          refine goes_value (v := .pointer (some ⟨w.heap.size, 0, none⟩)) ?_ hC rfl
          simp only [execOp, Act.eval, b0]
          go_simp
        refine AllOps.cons ?_ ?_
        · intro aa W hC hB hdep
          obtain ⟨xg, (qg : xg = .bool true), eg⟩ := hdep 9 28 (by kernel_rfl)
          subst qg
          refine .inl ⟨(wanted_is (g := 9) (t := 28) (b := true) (c := true) rfl rfl (by rw [hB.size]; exact Nat.le_of_ble_eq_true rfl) eg).trans rfl, ?_⟩
          obtain ⟨x0, (q0 : x0 = .pointer (some ⟨w.heap.size, 0, none⟩)), e0⟩ := hdep 14 33 (by kernel_rfl)
          subst q0
          obtain ⟨c0, p0, p1, p2, p3⟩ := HXC.out W hC
          clear hB hdep
          refine goes_value (v := .agg #[.int .i64 a.1, .int .i64 a.2]) ?_ hC rfl
          simp only [execOp, Act.eval, e0]
          go_simp
        refine AllOps.cons ?_ ?_
        · intro aa W hC hB hdep
          obtain ⟨xg, (qg : xg = .bool true), eg⟩ := hdep 9 28 (by kernel_rfl)
          subst qg
          refine .inl ⟨(wanted_is (g := 9) (t := 28) (b := true) (c := true) rfl rfl (by rw [hB.size]; exact Nat.le_of_ble_eq_true rfl) eg).trans rfl, ?_⟩
          obtain ⟨x0, (q0 : x0 = .pointer (some ⟨g, 0, none⟩)), e0⟩ := hdep 13 32 (by kernel_rfl)
          subst q0
          obtain ⟨x1, (q1 : x1 = .agg #[.int .i64 a.1, .int .i64 a.2]), e1⟩ := hdep 15 34 (by kernel_rfl)
          subst q1
          clear hB hdep
          refine goes_call (f := 27) (args := #[.pointer (some ⟨g, 0, none⟩), .agg #[.int .i64 a.1, .int .i64 a.2]]) ?_ ?_
          · simp only [execOp]
            go_simp
          · exact (HLA.out W (HS.out.below (HB2.out.trans (hC.mono HB2.out.size)))).mono fun e w7 ⟨he, hb⟩ => ⟨_, he, hC.trans (hb.mono hC.size), hb, rfl⟩
        refine AllOps.cons ?_ ?_
        · intro aa W hC hB hdep
          obtain ⟨xg, (qg : xg = .bool true), eg⟩ := hdep 9 28 (by kernel_rfl)
          subst qg
          refine .inl ⟨(wanted_is (g := 9) (t := 28) (b := true) (c := true) rfl rfl (by rw [hB.size]; exact Nat.le_of_ble_eq_true rfl) eg).trans rfl, ?_⟩
          have b0 : aa.tmps.getD 0 undef = .pointer (some ⟨lb, 0, none⟩) := hB.off 0 (by kernel_rfl)
          clear hB hdep
          refine goes_value (v := .pointer (some ⟨lb, 0, none⟩)) ?_ hC rfl
          simp only [execOp, Act.eval, b0]
          go_simp
        refine AllOps.cons ?_ ?_
        · intro aa W hC hB hdep
          obtain ⟨xg, (qg : xg = .bool true), eg⟩ := hdep 9 28 (by kernel_rfl)
          subst qg
          refine .inl ⟨(wanted_is (g := 9) (t := 28) (b := true) (c := true) rfl rfl (by rw [hB.size]; exact Nat.le_of_ble_eq_true rfl) eg).trans rfl, ?_⟩
          obtain ⟨x0, (q0 : x0 = .pointer (some ⟨lb, 0, none⟩)), e0⟩ := hdep 17 36 (by kernel_rfl)
          subst q0
          clear hB hdep
          refine goes_value (v := .pointer (some ⟨lb, 0, none⟩)) ?_ hC rfl
          simp only [execOp, Act.eval, e0]
          go_simp
        refine AllOps.cons ?_ ?_
        · intro aa W hC hB hdep
          obtain ⟨xg, (qg : xg = .bool true), eg⟩ := hdep 9 28 (by kernel_rfl)
          subst qg
          refine .inl ⟨(wanted_is (g := 9) (t := 28) (b := true) (c := true) rfl rfl (by rw [hB.size]; exact Nat.le_of_ble_eq_true rfl) eg).trans rfl, ?_⟩
          obtain ⟨x0, (q0 : x0 = .pointer (some ⟨lb, 0, none⟩)), e0⟩ := hdep 18 37 (by kernel_rfl)
          subst q0
          clear hB hdep
          refine goes_value (v := .pointer (some ⟨lb, 0, none⟩)) ?_ hC rfl
          simp only [execOp, Act.eval, e0]
          go_simp
        refine AllOps.cons ?_ ?_
        · intro aa W hC hB hdep
          obtain ⟨xg, (qg : xg = .bool true), eg⟩ := hdep 9 28 (by kernel_rfl)
          subst qg
          refine .inl ⟨(wanted_is (g := 9) (t := 28) (b := true) (c := true) rfl rfl (by rw [hB.size]; exact Nat.le_of_ble_eq_true rfl) eg).trans rfl, ?_⟩
          obtain ⟨x0, (q0 : x0 = .pointer (some ⟨lb, 0, none⟩)), e0⟩ := hdep 19 38 (by kernel_rfl)
          subst q0
          obtain ⟨c0, p0, p1, p2, p3⟩ := HXC.out W hC
          clear hB hdep
          refine goes_value (v := .pointer (some ⟨g, 0, none⟩)) ?_ hC rfl
          simp only [execOp, Act.eval, e0]
          go_simp
        refine AllOps.cons ?_ ?_
        · intro aa W hC hB hdep
          obtain ⟨xg, (qg : xg = .bool true), eg⟩ := hdep 9 28 (by kernel_rfl)
          subst qg
          refine .inl ⟨(wanted_is (g := 9) (t := 28) (b := true) (c := true) rfl rfl (by rw [hB.size]; exact Nat.le_of_ble_eq_true rfl) eg).trans rfl, ?_⟩
          have b0 : aa.tmps.getD 3 undef = .pointer (some ⟨w.heap.size, 0, none⟩) := hB.off 3 (by kernel_rfl)
          clear hB hdep
          refine goes_value (v := .pointer (some ⟨w.heap.size, 2, none⟩)) ?_ hC rfl
          simp only [execOp, Act.eval, b0]
          go_simp
        refine AllOps.cons ?_ ?_
        · intro aa W hC hB hdep
          obtain ⟨xg, (qg : xg = .bool true), eg⟩ := hdep 9 28 (by kernel_rfl)
          subst qg
          refine .inl ⟨(wanted_is (g := 9) (t := 28) (b := true) (c := true) rfl rfl (by rw [hB.size]; exact Nat.le_of_ble_eq_true rfl) eg).trans rfl, ?_⟩
          obtain ⟨x0, (q0 : x0 = .pointer (some ⟨w.heap.size, 2, none⟩)), e0⟩ := hdep 21 40 (by kernel_rfl)
          subst q0
          obtain ⟨c0, p0, p1, p2, p3⟩ := HXC.out W hC
          clear hB hdep
          refine goes_value (v := .agg #[.int .i64 b.1, .int .i64 b.2]) ?_ hC rfl
          simp only [execOp, Act.eval, e0]
          go_simp
        refine AllOps.cons ?_ ?_
        · intro aa W hC hB hdep
          obtain ⟨xg, (qg : xg = .bool true), eg⟩ := hdep 9 28 (by kernel_rfl)
          subst qg
          refine .inl ⟨(wanted_is (g := 9) (t := 28) (b := true) (c := true) rfl rfl (by rw [hB.size]; exact Nat.le_of_ble_eq_true rfl) eg).trans rfl, ?_⟩
          obtain ⟨x0, (q0 : x0 = .pointer (some ⟨g, 0, none⟩)), e0⟩ := hdep 20 39 (by kernel_rfl)
          subst q0
          obtain ⟨x1, (q1 : x1 = .agg #[.int .i64 b.1, .int .i64 b.2]), e1⟩ := hdep 22 41 (by kernel_rfl)
          subst q1
          clear hB hdep
          refine goes_call (f := 27) (args := #[.pointer (some ⟨g, 0, none⟩), .agg #[.int .i64 b.1, .int .i64 b.2]]) ?_ ?_
          · simp only [execOp]
            go_simp
          · exact (HNB.out W (HS.out.below (HB2.out.trans (hC.mono HB2.out.size)))).mono fun e w7 ⟨he, hb⟩ => ⟨_, he, hC.trans (hb.mono hC.size), hb, rfl⟩
        refine AllOps.cons ?_ ?_
        · intro aa W hC hB hdep
          obtain ⟨xg, (qg : xg = .bool true), eg⟩ := hdep 9 28 (by kernel_rfl)
          subst qg
          refine .inl ⟨(wanted_is (g := 9) (t := 28) (b := true) (c := true) rfl rfl (by rw [hB.size]; exact Nat.le_of_ble_eq_true rfl) eg).trans rfl, ?_⟩
          obtain ⟨x0, (q0 : x0 = .int .i64 ((la : Nat) : Int)), e0⟩ := hdep 16 35 (by kernel_rfl)
          subst q0
          obtain ⟨x1, (q1 : x1 = .int .i64 ((nb : Nat) : Int)), e1⟩ := hdep 23 42 (by kernel_rfl)
          subst q1
          clear hB hdep
          refine goes_value (v := .bool (((la : Nat) : Int) == ((nb : Nat) : Int))) ?_ hC rfl
          simp only [execOp, Act.eval, e0, e1]
          go_simp
        refine AllOps.cons ?_ ?_
        · intro aa W hC hB hdep
          refine .inl ⟨rfl, ?_⟩
          obtain ⟨x0, (q0 : x0 = .bool true), e0⟩ := hdep 9 28 (by kernel_rfl)
          subst q0
          obtain ⟨x1, (q1 : x1 = .bool (((la : Nat) : Int) == ((nb : Nat) : Int))), e1⟩ := hdep 24 43 (by kernel_rfl)
          subst q1
          clear hB hdep
          refine goes_value (v := .bool (((la : Nat) : Int) == ((nb : Nat) : Int))) ?_ hC rfl
          simp only [execOp, Act.eval, e0, e1]
          go_simp
        refine AllOps.cons ?_ ?_
        · intro aa W hC hB hdep
          refine .inl ⟨rfl, ?_⟩
          obtain ⟨x0, (q0 : x0 = .bool (((la : Nat) : Int) == ((nb : Nat) : Int))), e0⟩ := hdep 25 44 (by kernel_rfl)
          subst q0
          clear hB hdep
          refine goes_value (v := .bool (((la : Nat) : Int) == ((nb : Nat) : Int))) ?_ hC rfl
          simp only [execOp, Act.eval, e0]
          go_simp
        exact trivial
      · intro aa w8 hC hB hall
        have hv : ∀ p ∈ [((19 : Nat), (.pointer (some ⟨lb, 0, none⟩) : Value)), ((20 : Nat), (.pointer (some ⟨lb, 0, none⟩) : Value)), ((21 : Nat), (.pointer (some ⟨lb, 0, none⟩) : Value)), ((22 : Nat), (.pointer (some ⟨g, 0, none⟩) : Value)), ((23 : Nat), (.pointer (some ⟨w.heap.size, 2, none⟩) : Value)), ((24 : Nat), (.agg #[.int .i64 b.1, .int .i64 b.2] : Value)), ((25 : Nat), (.int .i64 1 : Value)), ((26 : Nat), (.int .i64 1 : Value)), ((27 : Nat), (.bool true : Value)), ((28 : Nat), (.bool true : Value)), ((29 : Nat), (.pointer (some ⟨lb, 0, none⟩) : Value)), ((30 : Nat), (.pointer (some ⟨lb, 0, none⟩) : Value)), ((31 : Nat), (.pointer (some ⟨lb, 0, none⟩) : Value)), ((32 : Nat), (.pointer (some ⟨g, 0, none⟩) : Value)), ((33 : Nat), (.pointer (some ⟨w.heap.size, 0, none⟩) : Value)), ((34 : Nat), (.agg #[.int .i64 a.1, .int .i64 a.2] : Value)), ((35 : Nat), (.int .i64 ((la : Nat) : Int) : Value)), ((36 : Nat), (.pointer (some ⟨lb, 0, none⟩) : Value)), ((37 : Nat), (.pointer (some ⟨lb, 0, none⟩) : Value)), ((38 : Nat), (.pointer (some ⟨lb, 0, none⟩) : Value)), ((39 : Nat), (.pointer (some ⟨g, 0, none⟩) : Value)), ((40 : Nat), (.pointer (some ⟨w.heap.size, 2, none⟩) : Value)), ((41 : Nat), (.agg #[.int .i64 b.1, .int .i64 b.2] : Value)), ((42 : Nat), (.int .i64 ((nb : Nat) : Int) : Value)), ((43 : Nat), (.bool (((la : Nat) : Int) == ((nb : Nat) : Int)) : Value)), ((44 : Nat), (.bool (((la : Nat) : Int) == ((nb : Nat) : Int)) : Value)), ((4 : Nat), (.bool (((la : Nat) : Int) == ((nb : Nat) : Int)) : Value))], aa.tmps.getD p.1 undef = p.2 := by
          obtain ⟨_, (k0 : _ = _), e0⟩ := hall 0 _ rfl
          obtain ⟨_, (k1 : _ = _), e1⟩ := hall 1 _ rfl
          obtain ⟨_, (k2 : _ = _), e2⟩ := hall 2 _ rfl
          obtain ⟨_, (k3 : _ = _), e3⟩ := hall 3 _ rfl
          obtain ⟨_, (k4 : _ = _), e4⟩ := hall 4 _ rfl
          obtain ⟨_, (k5 : _ = _), e5⟩ := hall 5 _ rfl
          obtain ⟨_, (k6 : _ = _), e6⟩ := hall 6 _ rfl
          obtain ⟨_, (k7 : _ = _), e7⟩ := hall 7 _ rfl
          obtain ⟨_, (k8 : _ = _), e8⟩ := hall 8 _ rfl
          obtain ⟨_, (k9 : _ = _), e9⟩ := hall 9 _ rfl
          obtain ⟨_, (k10 : _ = _), e10⟩ := hall 10 _ rfl
          obtain ⟨_, (k11 : _ = _), e11⟩ := hall 11 _ rfl
          obtain ⟨_, (k12 : _ = _), e12⟩ := hall 12 _ rfl
          obtain ⟨_, (k13 : _ = _), e13⟩ := hall 13 _ rfl
          obtain ⟨_, (k14 : _ = _), e14⟩ := hall 14 _ rfl
          obtain ⟨_, (k15 : _ = _), e15⟩ := hall 15 _ rfl
          obtain ⟨_, (k16 : _ = _), e16⟩ := hall 16 _ rfl
          obtain ⟨_, (k17 : _ = _), e17⟩ := hall 17 _ rfl
          obtain ⟨_, (k18 : _ = _), e18⟩ := hall 18 _ rfl
          obtain ⟨_, (k19 : _ = _), e19⟩ := hall 19 _ rfl
          obtain ⟨_, (k20 : _ = _), e20⟩ := hall 20 _ rfl
          obtain ⟨_, (k21 : _ = _), e21⟩ := hall 21 _ rfl
          obtain ⟨_, (k22 : _ = _), e22⟩ := hall 22 _ rfl
          obtain ⟨_, (k23 : _ = _), e23⟩ := hall 23 _ rfl
          obtain ⟨_, (k24 : _ = _), e24⟩ := hall 24 _ rfl
          obtain ⟨_, (k25 : _ = _), e25⟩ := hall 25 _ rfl
          obtain ⟨_, (k26 : _ = _), e26⟩ := hall 26 _ rfl
          subst k0 k1 k2 k3 k4 k5 k6 k7 k8 k9 k10 k11 k12 k13 k14 k15 k16 k17 k18 k19 k20 k21 k22 k23 k24 k25 k26
          intro p hp
          simp only [List.mem_cons, List.not_mem_nil, or_false] at hp
          rcases hp with rfl | rfl | rfl | rfl | rfl | rfl | rfl | rfl | rfl | rfl | rfl | rfl | rfl | rfl | rfl | rfl | rfl | rfl | rfl | rfl | rfl | rfl | rfl | rfl | rfl | rfl | rfl
          · exact e0 _ rfl
          · exact e1 _ rfl
          · exact e2 _ rfl
          · exact e3 _ rfl
          · exact e4 _ rfl
          · exact e5 _ rfl
          · exact e6 _ rfl
          · exact e7 _ rfl
          · exact e8 _ rfl
          · exact e9 _ rfl
          · exact e10 _ rfl
          · exact e11 _ rfl
          · exact e12 _ rfl
          · exact e13 _ rfl
          · exact e14 _ rfl
          · exact e15 _ rfl
          · exact e16 _ rfl
          · exact e17 _ rfl
          · exact e18 _ rfl
          · exact e19 _ rfl
          · exact e20 _ rfl
          · exact e21 _ rfl
          · exact e22 _ rfl
          · exact e23 _ rfl
          · exact e24 _ rfl
          · exact e25 _ rfl
          · exact e26 _ rfl
        have hact := act_fold _ hB hv (by kernel_rfl)
        subst hact
        clear hv hall hB
        refine (‹∀ (a : Act) (w : World), Code.wp Try.prog _ _ a w → _›) _ w8 ?_
        simp only [List.foldl, List.setIfInBounds_toArray, List.set_cons_succ, List.set_cons_zero]
        go_wp2_with fail
        go_ret
        refine ⟨ret_bl ?_, HB2.out.trans (hC.mono HB2.out.size)⟩
        by_cases hln : la = nb
        · rw [compA_yes (by rw [← HEKA.out]; decide) (by rw [← HEKA.out]; decide) (by rw [← HEKA.out, ← HEKB.out]) (by rw [← HELA.out, ← HELB.out]; exact hln)]
          simp [hln]
        · rw [compA_len (by rw [← HELA.out, ← HELB.out]; exact hln), beq_eq_false_iff_ne]
          omega
    · have hkf : (kb == 1) = false := by rw [beq_eq_false_iff_ne]; exact hkk
      refine wp_region_slotsG (psi [isV (.pointer (some ⟨lb, 0, none⟩)), isV (.pointer (some ⟨lb, 0, none⟩)), isV (.pointer (some ⟨lb, 0, none⟩)), isV (.pointer (some ⟨g, 0, none⟩)), isV (.pointer (some ⟨w.heap.size, 2, none⟩)), isV (.agg #[.int .i64 b.1, .int .i64 b.2]), isV (.int .i64 kb), isV (.int .i64 1), isV (.bool false), isV (.bool false), isV (undef), isV (undef), isV (undef), isV (undef), isV (undef), isV (undef), isV (undef), isV (undef), isV (undef), isV (undef), isV (undef), isV (undef), isV (undef), isV (undef), isV (undef), isV (.bool false), isV (.bool false)]) (fun W => Below w2.heap.size w2 W) (by kernel_rfl) (Below.refl _ _).drew (psi_mono ?_) (by kernel_rfl) (by kernel_rfl) ?_ ?_
      · intro p hp
        simp only [List.mem_cons, List.not_mem_nil, or_false] at hp
        (repeat' rcases hp with rfl | hp) <;> first | exact isV_stays _ | (subst hp; exact isV_stays _)
      · refine AllOps.cons ?_ ?_
        · intro aa W hC hB hdep
          refine .inl ⟨rfl, ?_⟩
          have b0 : aa.tmps.getD 0 undef = .pointer (some ⟨lb, 0, none⟩) := hB.off 0 (by kernel_rfl)
          clear hB hdep
          refine goes_value (v := .pointer (some ⟨lb, 0, none⟩)) ?_ hC rfl
          simp only [execOp, Act.eval, b0]
          go_simp
        refine AllOps.cons ?_ ?_
        · intro aa W hC hB hdep
          refine .inl ⟨rfl, ?_⟩
          obtain ⟨x0, (q0 : x0 = .pointer (some ⟨lb, 0, none⟩)), e0⟩ := hdep 0 19 (by kernel_rfl)
          subst q0
          clear hB hdep
          refine goes_value (v := .pointer (some ⟨lb, 0, none⟩)) ?_ hC rfl
          simp only [execOp, Act.eval, e0]
          go_simp
        refine AllOps.cons ?_ ?_
        · intro aa W hC hB hdep
          refine .inl ⟨rfl, ?_⟩
          obtain ⟨x0, (q0 : x0 = .pointer (some ⟨lb, 0, none⟩)), e0⟩ := hdep 1 20 (by kernel_rfl)
          subst q0
          clear hB hdep
          refine goes_value (v := .pointer (some ⟨lb, 0, none⟩)) ?_ hC rfl
          simp only [execOp, Act.eval, e0]
          go_simp
        refine AllOps.cons ?_ ?_
        · intro aa W hC hB hdep
          refine .inl ⟨rfl, ?_⟩
          obtain ⟨x0, (q0 : x0 = .pointer (some ⟨lb, 0, none⟩)), e0⟩ := hdep 2 21 (by kernel_rfl)
          subst q0
          obtain ⟨c0, p0, p1, p2, p3⟩ := HXC.out W hC
          clear hB hdep
          refine goes_value (v := .pointer (some ⟨g, 0, none⟩)) ?_ hC rfl
          simp only [execOp, Act.eval, e0]
          go_simp
        refine AllOps.cons ?_ ?_
        · intro aa W hC hB hdep
          refine .inl ⟨rfl, ?_⟩
          have b0 : aa.tmps.getD 3 undef = .pointer (some ⟨w.heap.size, 0, none⟩) := hB.off 3 (by kernel_rfl)
          clear hB hdep
          refine goes_value (v := .pointer (some ⟨w.heap.size, 2, none⟩)) ?_ hC rfl
          simp only [execOp, Act.eval, b0]
          go_simp
        refine AllOps.cons ?_ ?_
        · intro aa W hC hB hdep
          refine .inl ⟨rfl, ?_⟩
          obtain ⟨x0, (q0 : x0 = .pointer (some ⟨w.heap.size, 2, none⟩)), e0⟩ := hdep 4 23 (by kernel_rfl)
          subst q0
          obtain ⟨c0, p0, p1, p2, p3⟩ := HXC.out W hC
          clear hB hdep
          refine goes_value (v := .agg #[.int .i64 b.1, .int .i64 b.2]) ?_ hC rfl
          simp only [execOp, Act.eval, e0]
          go_simp
        refine AllOps.cons ?_ ?_
        · intro aa W hC hB hdep
          refine .inl ⟨rfl, ?_⟩
          obtain ⟨x0, (q0 : x0 = .pointer (some ⟨g, 0, none⟩)), e0⟩ := hdep 3 22 (by kernel_rfl)
          subst q0
          obtain ⟨x1, (q1 : x1 = .agg #[.int .i64 b.1, .int .i64 b.2]), e1⟩ := hdep 5 24 (by kernel_rfl)
          subst q1
          clear hB hdep
          refine goes_call (f := 26) (args := #[.pointer (some ⟨g, 0, none⟩), .agg #[.int .i64 b.1, .int .i64 b.2]]) ?_ ?_
          · simp only [execOp]
            go_simp
          · exact (HKB.out W (HS.out.below (HB2.out.trans (hC.mono HB2.out.size)))).mono fun e w7 ⟨he, hb⟩ => ⟨_, he, hC.trans (hb.mono hC.size), hb, rfl⟩
        refine AllOps.cons ?_ ?_
        · intro aa W hC hB hdep
          refine .inl ⟨rfl, ?_⟩
          have b0 : aa.tmps.getD 5 undef = .int .i64 1 := hB.off 5 (by kernel_rfl)
          clear hB hdep
          refine goes_value (v := .int .i64 1) ?_ hC rfl
          simp only [execOp, Act.eval, b0]
          go_simp
        refine AllOps.cons ?_ ?_
        · intro aa W hC hB hdep
          refine .inl ⟨rfl, ?_⟩
          obtain ⟨x0, (q0 : x0 = .int .i64 kb), e0⟩ := hdep 6 25 (by kernel_rfl)
          subst q0
          obtain ⟨x1, (q1 : x1 = .int .i64 1), e1⟩ := hdep 7 26 (by kernel_rfl)
          subst q1
          clear hB hdep
          refine goes_value (v := .bool false) ?_ hC rfl
          simp only [execOp, Act.eval, e0, e1]
          go_simp
        refine AllOps.cons ?_ ?_
        · intro aa W hC hB hdep
          refine .inl ⟨rfl, ?_⟩
          obtain ⟨x0, (q0 : x0 = .bool false), e0⟩ := hdep 8 27 (by kernel_rfl)
          subst q0
          clear hB hdep
          refine goes_value (v := .bool false) ?_ hC rfl
          simp only [execOp, Act.eval, e0]
          go_simp
        refine AllOps.cons ?_ ?_
        · intro aa W hC hB hdep
          obtain ⟨xg, (qg : xg = .bool false), eg⟩ := hdep 9 28 (by kernel_rfl)
          subst qg
          exact .inr ⟨(wanted_is (g := 9) (t := 28) (b := true) (c := false) rfl rfl (by rw [hB.size]; exact Nat.le_of_ble_eq_true rfl) eg).trans rfl, rfl⟩
        refine AllOps.cons ?_ ?_
        · intro aa W hC hB hdep
          obtain ⟨xg, (qg : xg = .bool false), eg⟩ := hdep 9 28 (by kernel_rfl)
          subst qg
          exact .inr ⟨(wanted_is (g := 9) (t := 28) (b := true) (c := false) rfl rfl (by rw [hB.size]; exact Nat.le_of_ble_eq_true rfl) eg).trans rfl, rfl⟩
        refine AllOps.cons ?_ ?_
        · intro aa W hC hB hdep
          obtain ⟨xg, (qg : xg = .bool false), eg⟩ := hdep 9 28 (by kernel_rfl)
          subst qg
          exact .inr ⟨(wanted_is (g := 9) (t := 28) (b := true) (c := false) rfl rfl (by rw [hB.size]; exact Nat.le_of_ble_eq_true rfl) eg).trans rfl, rfl⟩
        refine AllOps.cons ?_ ?_
        · intro aa W hC hB hdep
          obtain ⟨xg, (qg : xg = .bool false), eg⟩ := hdep 9 28 (by kernel_rfl)
          subst qg
          exact .inr ⟨(wanted_is (g := 9) (t := 28) (b := true) (c := false) rfl rfl (by rw [hB.size]; exact Nat.le_of_ble_eq_true rfl) eg).trans rfl, rfl⟩
        refine AllOps.cons ?_ ?_
        · intro aa W hC hB hdep
          obtain ⟨xg, (qg : xg = .bool false), eg⟩ := hdep 9 28 (by kernel_rfl)
          subst qg
          exact .inr ⟨(wanted_is (g := 9) (t := 28) (b := true) (c := false) rfl rfl (by rw [hB.size]; exact Nat.le_of_ble_eq_true rfl) eg).trans rfl, rfl⟩
        refine AllOps.cons ?_ ?_
        · intro aa W hC hB hdep
          obtain ⟨xg, (qg : xg = .bool false), eg⟩ := hdep 9 28 (by kernel_rfl)
          subst qg
          exact .inr ⟨(wanted_is (g := 9) (t := 28) (b := true) (c := false) rfl rfl (by rw [hB.size]; exact Nat.le_of_ble_eq_true rfl) eg).trans rfl, rfl⟩
        refine AllOps.cons ?_ ?_
        · intro aa W hC hB hdep
          obtain ⟨xg, (qg : xg = .bool false), eg⟩ := hdep 9 28 (by kernel_rfl)
          subst qg
          exact .inr ⟨(wanted_is (g := 9) (t := 28) (b := true) (c := false) rfl rfl (by rw [hB.size]; exact Nat.le_of_ble_eq_true rfl) eg).trans rfl, rfl⟩
        refine AllOps.cons ?_ ?_
        · intro aa W hC hB hdep
          obtain ⟨xg, (qg : xg = .bool false), eg⟩ := hdep 9 28 (by kernel_rfl)
          subst qg
          exact .inr ⟨(wanted_is (g := 9) (t := 28) (b := true) (c := false) rfl rfl (by rw [hB.size]; exact Nat.le_of_ble_eq_true rfl) eg).trans rfl, rfl⟩
        refine AllOps.cons ?_ ?_
        · intro aa W hC hB hdep
          obtain ⟨xg, (qg : xg = .bool false), eg⟩ := hdep 9 28 (by kernel_rfl)
          subst qg
          exact .inr ⟨(wanted_is (g := 9) (t := 28) (b := true) (c := false) rfl rfl (by rw [hB.size]; exact Nat.le_of_ble_eq_true rfl) eg).trans rfl, rfl⟩
        refine AllOps.cons ?_ ?_
        · intro aa W hC hB hdep
          obtain ⟨xg, (qg : xg = .bool false), eg⟩ := hdep 9 28 (by kernel_rfl)
          subst qg
          exact .inr ⟨(wanted_is (g := 9) (t := 28) (b := true) (c := false) rfl rfl (by rw [hB.size]; exact Nat.le_of_ble_eq_true rfl) eg).trans rfl, rfl⟩
        refine AllOps.cons ?_ ?_
        · intro aa W hC hB hdep
          obtain ⟨xg, (qg : xg = .bool false), eg⟩ := hdep 9 28 (by kernel_rfl)
          subst qg
          exact .inr ⟨(wanted_is (g := 9) (t := 28) (b := true) (c := false) rfl rfl (by rw [hB.size]; exact Nat.le_of_ble_eq_true rfl) eg).trans rfl, rfl⟩
        refine AllOps.cons ?_ ?_
        · intro aa W hC hB hdep
          obtain ⟨xg, (qg : xg = .bool false), eg⟩ := hdep 9 28 (by kernel_rfl)
          subst qg
          exact .inr ⟨(wanted_is (g := 9) (t := 28) (b := true) (c := false) rfl rfl (by rw [hB.size]; exact Nat.le_of_ble_eq_true rfl) eg).trans rfl, rfl⟩
        refine AllOps.cons ?_ ?_
        · intro aa W hC hB hdep
          obtain ⟨xg, (qg : xg = .bool false), eg⟩ := hdep 9 28 (by kernel_rfl)
          subst qg
          exact .inr ⟨(wanted_is (g := 9) (t := 28) (b := true) (c := false) rfl rfl (by rw [hB.size]; exact Nat.le_of_ble_eq_true rfl) eg).trans rfl, rfl⟩
        refine AllOps.cons ?_ ?_
        · intro aa W hC hB hdep
          obtain ⟨xg, (qg : xg = .bool false), eg⟩ := hdep 9 28 (by kernel_rfl)
          subst qg
          exact .inr ⟨(wanted_is (g := 9) (t := 28) (b := true) (c := false) rfl rfl (by rw [hB.size]; exact Nat.le_of_ble_eq_true rfl) eg).trans rfl, rfl⟩
        refine AllOps.cons ?_ ?_
        · intro aa W hC hB hdep
          obtain ⟨xg, (qg : xg = .bool false), eg⟩ := hdep 9 28 (by kernel_rfl)
          subst qg
          exact .inr ⟨(wanted_is (g := 9) (t := 28) (b := true) (c := false) rfl rfl (by rw [hB.size]; exact Nat.le_of_ble_eq_true rfl) eg).trans rfl, rfl⟩
        refine AllOps.cons ?_ ?_
        · intro aa W hC hB hdep
          refine .inl ⟨rfl, ?_⟩
          obtain ⟨x0, (q0 : x0 = .bool false), e0⟩ := hdep 9 28 (by kernel_rfl)
          subst q0
          obtain ⟨x1, (q1 : x1 = undef), e1⟩ := hdep 24 43 (by kernel_rfl)
          subst q1
          clear hB hdep
          refine goes_value (v := .bool false) ?_ hC rfl
          simp only [execOp, Act.eval, e0, e1]
          go_simp
        refine AllOps.cons ?_ ?_
        · intro aa W hC hB hdep
          refine .inl ⟨rfl, ?_⟩
          obtain ⟨x0, (q0 : x0 = .bool false), e0⟩ := hdep 25 44 (by kernel_rfl)
          subst q0
          clear hB hdep
          refine goes_value (v := .bool false) ?_ hC rfl
          simp only [execOp, Act.eval, e0]
          go_simp
        exact trivial
      · intro aa w8 hC hB hall
        have hv : ∀ p ∈ [((19 : Nat), (.pointer (some ⟨lb, 0, none⟩) : Value)), ((20 : Nat), (.pointer (some ⟨lb, 0, none⟩) : Value)), ((21 : Nat), (.pointer (some ⟨lb, 0, none⟩) : Value)), ((22 : Nat), (.pointer (some ⟨g, 0, none⟩) : Value)), ((23 : Nat), (.pointer (some ⟨w.heap.size, 2, none⟩) : Value)), ((24 : Nat), (.agg #[.int .i64 b.1, .int .i64 b.2] : Value)), ((25 : Nat), (.int .i64 kb : Value)), ((26 : Nat), (.int .i64 1 : Value)), ((27 : Nat), (.bool false : Value)), ((28 : Nat), (.bool false : Value)), ((29 : Nat), (undef : Value)), ((30 : Nat), (undef : Value)), ((31 : Nat), (undef : Value)), ((32 : Nat), (undef : Value)), ((33 : Nat), (undef : Value)), ((34 : Nat), (undef : Value)), ((35 : Nat), (undef : Value)), ((36 : Nat), (undef : Value)), ((37 : Nat), (undef : Value)), ((38 : Nat), (undef : Value)), ((39 : Nat), (undef : Value)), ((40 : Nat), (undef : Value)), ((41 : Nat), (undef : Value)), ((42 : Nat), (undef : Value)), ((43 : Nat), (undef : Value)), ((44 : Nat), (.bool false : Value)), ((4 : Nat), (.bool false : Value))], aa.tmps.getD p.1 undef = p.2 := by
          obtain ⟨_, (k0 : _ = _), e0⟩ := hall 0 _ rfl
          obtain ⟨_, (k1 : _ = _), e1⟩ := hall 1 _ rfl
          obtain ⟨_, (k2 : _ = _), e2⟩ := hall 2 _ rfl
          obtain ⟨_, (k3 : _ = _), e3⟩ := hall 3 _ rfl
          obtain ⟨_, (k4 : _ = _), e4⟩ := hall 4 _ rfl
          obtain ⟨_, (k5 : _ = _), e5⟩ := hall 5 _ rfl
          obtain ⟨_, (k6 : _ = _), e6⟩ := hall 6 _ rfl
          obtain ⟨_, (k7 : _ = _), e7⟩ := hall 7 _ rfl
          obtain ⟨_, (k8 : _ = _), e8⟩ := hall 8 _ rfl
          obtain ⟨_, (k9 : _ = _), e9⟩ := hall 9 _ rfl
          obtain ⟨_, (k10 : _ = _), e10⟩ := hall 10 _ rfl
          obtain ⟨_, (k11 : _ = _), e11⟩ := hall 11 _ rfl
          obtain ⟨_, (k12 : _ = _), e12⟩ := hall 12 _ rfl
          obtain ⟨_, (k13 : _ = _), e13⟩ := hall 13 _ rfl
          obtain ⟨_, (k14 : _ = _), e14⟩ := hall 14 _ rfl
          obtain ⟨_, (k15 : _ = _), e15⟩ := hall 15 _ rfl
          obtain ⟨_, (k16 : _ = _), e16⟩ := hall 16 _ rfl
          obtain ⟨_, (k17 : _ = _), e17⟩ := hall 17 _ rfl
          obtain ⟨_, (k18 : _ = _), e18⟩ := hall 18 _ rfl
          obtain ⟨_, (k19 : _ = _), e19⟩ := hall 19 _ rfl
          obtain ⟨_, (k20 : _ = _), e20⟩ := hall 20 _ rfl
          obtain ⟨_, (k21 : _ = _), e21⟩ := hall 21 _ rfl
          obtain ⟨_, (k22 : _ = _), e22⟩ := hall 22 _ rfl
          obtain ⟨_, (k23 : _ = _), e23⟩ := hall 23 _ rfl
          obtain ⟨_, (k24 : _ = _), e24⟩ := hall 24 _ rfl
          obtain ⟨_, (k25 : _ = _), e25⟩ := hall 25 _ rfl
          obtain ⟨_, (k26 : _ = _), e26⟩ := hall 26 _ rfl
          subst k0 k1 k2 k3 k4 k5 k6 k7 k8 k9 k10 k11 k12 k13 k14 k15 k16 k17 k18 k19 k20 k21 k22 k23 k24 k25 k26
          intro p hp
          simp only [List.mem_cons, List.not_mem_nil, or_false] at hp
          rcases hp with rfl | rfl | rfl | rfl | rfl | rfl | rfl | rfl | rfl | rfl | rfl | rfl | rfl | rfl | rfl | rfl | rfl | rfl | rfl | rfl | rfl | rfl | rfl | rfl | rfl | rfl | rfl
          · exact e0 _ rfl
          · exact e1 _ rfl
          · exact e2 _ rfl
          · exact e3 _ rfl
          · exact e4 _ rfl
          · exact e5 _ rfl
          · exact e6 _ rfl
          · exact e7 _ rfl
          · exact e8 _ rfl
          · exact e9 _ rfl
          · exact e10 _ rfl
          · exact e11 _ rfl
          · exact e12 _ rfl
          · exact e13 _ rfl
          · exact e14 _ rfl
          · exact e15 _ rfl
          · exact e16 _ rfl
          · exact e17 _ rfl
          · exact e18 _ rfl
          · exact e19 _ rfl
          · exact e20 _ rfl
          · exact e21 _ rfl
          · exact e22 _ rfl
          · exact e23 _ rfl
          · exact e24 _ rfl
          · exact e25 _ rfl
          · exact e26 _ rfl
        have hact := act_fold _ hB hv (by kernel_rfl)
        subst hact
        clear hv hall hB
        refine (‹∀ (a : Act) (w : World), Code.wp Try.prog _ _ a w → _›) _ w8 ?_
        simp only [List.foldl, List.setIfInBounds_toArray, List.set_cons_succ, List.set_cons_zero]
        go_wp2_with fail
        go_ret
        exact ⟨ret_bl (compA_kind (by rw [← HEKA.out, ← HEKB.out]; exact hkk)).symm, HB2.out.trans (hC.mono HB2.out.size)⟩

set_option maxRecDepth 100000 in
set_option maxHeartbeats 4000000 in
theorem comparable_2 (g lb : Nat) (R : Nat → Nat) (s : St) (a b : Int × Int) (w : World) (h : StW w g R s) (hlb : lb < w.heap.size) (hc : w.cell? ⟨lb, 0, none⟩ = some (.pointer (some ⟨g, 0, none⟩))) (hkn : s.kind a = 2) :
    Calls Try.prog 84 #[.pointer (some ⟨lb, 0, none⟩), .agg #[.int .i64 a.1, .int .i64 a.2, .int .i64 b.1, .int .i64 b.2]] w fun e w' => e = .returned (.bool (s.compA a b)) ∧ Below w.heap.size w w' := by
  have HS := Lib.hid h
  have HB1 := Lib.hid (below1 w (.cells #[.int .i64 a.1, .int .i64 a.2, .int .i64 b.1, .int .i64 b.2] 126))
  have n0 := box1 w #[.int .i64 a.1, .int .i64 a.2, .int .i64 b.1, .int .i64 b.2] 126
  have HN0 := Lib.hid n0
  obtain ⟨p0, p1, p2, p3⟩ := row4 n0
  have c0 := (HB1.out.cell (p := ⟨lb, 0, none⟩) hlb).trans hc
  have HC := Lib.hid hc
  have HLB := Lib.hid hlb
  obtain ⟨ka, hka⟩ : ∃ ka, ka = s.kind a := ⟨_, rfl⟩
  obtain ⟨kb, hkb⟩ : ∃ kb, kb = s.kind b := ⟨_, rfl⟩
  obtain ⟨la, hla⟩ : ∃ la, la = s.len a := ⟨_, rfl⟩
  obtain ⟨nb, hnb⟩ : ∃ nb, nb = s.len b := ⟨_, rfl⟩
  have HKA : Hid (∀ W, StW W g R s → Calls Try.prog 26 #[.pointer (some ⟨g, 0, none⟩), .agg #[.int .i64 a.1, .int .i64 a.2]] W fun e w' => e = .returned (.int .i64 ka) ∧ Below W.heap.size W w') := Lib.hid fun W hW => by rw [hka]; exact stkind_any g R s a W hW
  have HKB : Hid (∀ W, StW W g R s → Calls Try.prog 26 #[.pointer (some ⟨g, 0, none⟩), .agg #[.int .i64 b.1, .int .i64 b.2]] W fun e w' => e = .returned (.int .i64 kb) ∧ Below W.heap.size W w') := Lib.hid fun W hW => by rw [hkb]; exact stkind_any g R s b W hW
  have HLA : Hid (∀ W, StW W g R s → Calls Try.prog 27 #[.pointer (some ⟨g, 0, none⟩), .agg #[.int .i64 a.1, .int .i64 a.2]] W fun e w' => e = .returned (.int .i64 ((la : Nat) : Int)) ∧ Below W.heap.size W w') := Lib.hid fun W hW => by rw [hla]; exact stlen_any g R s a W hW
  have HNB : Hid (∀ W, StW W g R s → Calls Try.prog 27 #[.pointer (some ⟨g, 0, none⟩), .agg #[.int .i64 b.1, .int .i64 b.2]] W fun e w' => e = .returned (.int .i64 ((nb : Nat) : Int)) ∧ Below W.heap.size W w') := Lib.hid fun W hW => by rw [hnb]; exact stlen_any g R s b W hW
  have HEKA := Lib.hid hka
  have HEKB := Lib.hid hkb
  have HELA := Lib.hid hla
  have HELB := Lib.hid hnb
  clear h n0 hc hka hkb hla hnb hlb
  go_enter Try.func84, Try.ntmps84
  go_upto_region 1 with fail
  generalize w.alloc (.cells #[.int .i64 a.1, .int .i64 a.2, .int .i64 b.1, .int .i64 b.2] 126) = w1 at *
  clear p0 p1 p2 p3 c0
  have HX1 : Hid (∀ W, Below w1.heap.size w1 W → W.cell? ⟨lb, 0, none⟩ = some (.pointer (some ⟨g, 0, none⟩)) ∧ W.cell? ⟨w.heap.size, 0, none⟩ = some (.int .i64 a.1) ∧ W.cell? ⟨w.heap.size, 1, none⟩ = some (.int .i64 a.2) ∧ W.cell? ⟨w.heap.size, 2, none⟩ = some (.int .i64 b.1) ∧ W.cell? ⟨w.heap.size, 3, none⟩ = some (.int .i64 b.2)) := Lib.hid fun W hW => ⟨(hW.cell (p := ⟨lb, 0, none⟩) (Nat.lt_of_lt_of_le HLB.out HB1.out.size)).trans ((HB1.out.cell (p := ⟨lb, 0, none⟩) HLB.out).trans HC.out), row4 ((hW.block _ (Array.getElem?_eq_some_iff.1 HN0.out).1).trans HN0.out)⟩
  refine wp_region_slotsG (psi [isV (.pointer (some ⟨lb, 0, none⟩)), isV (.pointer (some ⟨lb, 0, none⟩)), isV (.pointer (some ⟨lb, 0, none⟩)), isV (.pointer (some ⟨g, 0, none⟩)), isV (.pointer (some ⟨w.heap.size, 0, none⟩)), isV (.agg #[.int .i64 a.1, .int .i64 a.2]), isV (.int .i64 ka), isV (.int .i64 ka)]) (fun W => Below w1.heap.size w1 W) (by kernel_rfl) (Below.refl _ _).drew (psi_mono ?_) (by kernel_rfl) (by kernel_rfl) ?_ ?_
  · intro p hp
    simp only [List.mem_cons, List.not_mem_nil, or_false] at hp
    (repeat' rcases hp with rfl | hp) <;> first | exact isV_stays _ | (subst hp; exact isV_stays _)
  · refine AllOps.cons ?_ ?_
    · intro aa W hC hB hdep
      refine .inl ⟨rfl, ?_⟩
      have b0 : aa.tmps.getD 0 undef = .pointer (some ⟨lb, 0, none⟩) := hB.off 0 (by kernel_rfl)
      clear hB hdep
      refine goes_value (v := .pointer (some ⟨lb, 0, none⟩)) ?_ hC rfl
      simp only [execOp, Act.eval, b0]
      go_simp
    refine AllOps.cons ?_ ?_
    · intro aa W hC hB hdep
      refine .inl ⟨rfl, ?_⟩
      obtain ⟨x0, (q0 : x0 = .pointer (some ⟨lb, 0, none⟩)), e0⟩ := hdep 0 6 (by kernel_rfl)
      subst q0
      clear hB hdep
      refine goes_value (v := .pointer (some ⟨lb, 0, none⟩)) ?_ hC rfl
      simp only [execOp, Act.eval, e0]
      go_simp
    refine AllOps.cons ?_ ?_
    · intro aa W hC hB hdep
      refine .inl ⟨rfl, ?_⟩
      obtain ⟨x0, (q0 : x0 = .pointer (some ⟨lb, 0, none⟩)), e0⟩ := hdep 1 7 (by kernel_rfl)
      subst q0
      clear hB hdep
      refine goes_value (v := .pointer (some ⟨lb, 0, none⟩)) ?_ hC rfl
      simp only [execOp, Act.eval, e0]
      go_simp
    refine AllOps.cons ?_ ?_
    · intro aa W hC hB hdep
      refine .inl ⟨rfl, ?_⟩
      obtain ⟨x0, (q0 : x0 = .pointer (some ⟨lb, 0, none⟩)), e0⟩ := hdep 2 8 (by kernel_rfl)
      subst q0
      obtain ⟨c0, p0, p1, p2, p3⟩ := HX1.out W hC
      clear hB hdep
      refine goes_value (v := .pointer (some ⟨g, 0, none⟩)) ?_ hC rfl
      simp only [execOp, Act.eval, e0]
      go_simp
    refine AllOps.cons ?_ ?_
    · intro aa W hC hB hdep
      refine .inl ⟨rfl, ?_⟩
      have b0 : aa.tmps.getD 3 undef = .pointer (some ⟨w.heap.size, 0, none⟩) := hB.off 3 (by kernel_rfl)
      clear hB hdep
      refine goes_value (v := .pointer (some ⟨w.heap.size, 0, none⟩)) ?_ hC rfl
      simp only [execOp, Act.eval, b0]
      go_simp
    refine AllOps.cons ?_ ?_
    · intro aa W hC hB hdep
      refine .inl ⟨rfl, ?_⟩
      obtain ⟨x0, (q0 : x0 = .pointer (some ⟨w.heap.size, 0, none⟩)), e0⟩ := hdep 4 10 (by kernel_rfl)
      subst q0
      obtain ⟨c0, p0, p1, p2, p3⟩ := HX1.out W hC
      clear hB hdep
      refine goes_value (v := .agg #[.int .i64 a.1, .int .i64 a.2]) ?_ hC rfl
      simp only [execOp, Act.eval, e0]
      go_simp
    refine AllOps.cons ?_ ?_
    · intro aa W hC hB hdep
      refine .inl ⟨rfl, ?_⟩
      obtain ⟨x0, (q0 : x0 = .pointer (some ⟨g, 0, none⟩)), e0⟩ := hdep 3 9 (by kernel_rfl)
      subst q0
      obtain ⟨x1, (q1 : x1 = .agg #[.int .i64 a.1, .int .i64 a.2]), e1⟩ := hdep 5 11 (by kernel_rfl)
      subst q1
      clear hB hdep
      refine goes_call (f := 26) (args := #[.pointer (some ⟨g, 0, none⟩), .agg #[.int .i64 a.1, .int .i64 a.2]]) ?_ ?_
      · simp only [execOp]
        go_simp
      · exact (HKA.out W (HS.out.below (HB1.out.trans (hC.mono HB1.out.size)))).mono fun e w7 ⟨he, hb⟩ => ⟨_, he, hC.trans (hb.mono hC.size), hb, rfl⟩
    refine AllOps.cons ?_ ?_
    · intro aa W hC hB hdep
      refine .inl ⟨rfl, ?_⟩
      obtain ⟨x0, (q0 : x0 = .int .i64 ka), e0⟩ := hdep 6 12 (by kernel_rfl)
      subst q0
      clear hB hdep
      refine goes_value (v := .int .i64 ka) ?_ hC rfl
      simp only [execOp, Act.eval, e0]
      go_simp
    exact trivial
  · intro aa w8 hC hB hall
    have hv : ∀ p ∈ [((6 : Nat), (.pointer (some ⟨lb, 0, none⟩) : Value)), ((7 : Nat), (.pointer (some ⟨lb, 0, none⟩) : Value)), ((8 : Nat), (.pointer (some ⟨lb, 0, none⟩) : Value)), ((9 : Nat), (.pointer (some ⟨g, 0, none⟩) : Value)), ((10 : Nat), (.pointer (some ⟨w.heap.size, 0, none⟩) : Value)), ((11 : Nat), (.agg #[.int .i64 a.1, .int .i64 a.2] : Value)), ((12 : Nat), (.int .i64 ka : Value)), ((5 : Nat), (.int .i64 ka : Value))], aa.tmps.getD p.1 undef = p.2 := by
      obtain ⟨_, (k0 : _ = _), e0⟩ := hall 0 _ rfl
      obtain ⟨_, (k1 : _ = _), e1⟩ := hall 1 _ rfl
      obtain ⟨_, (k2 : _ = _), e2⟩ := hall 2 _ rfl
      obtain ⟨_, (k3 : _ = _), e3⟩ := hall 3 _ rfl
      obtain ⟨_, (k4 : _ = _), e4⟩ := hall 4 _ rfl
      obtain ⟨_, (k5 : _ = _), e5⟩ := hall 5 _ rfl
      obtain ⟨_, (k6 : _ = _), e6⟩ := hall 6 _ rfl
      obtain ⟨_, (k7 : _ = _), e7⟩ := hall 7 _ rfl
      subst k0 k1 k2 k3 k4 k5 k6 k7
      intro p hp
      simp only [List.mem_cons, List.not_mem_nil, or_false] at hp
      rcases hp with rfl | rfl | rfl | rfl | rfl | rfl | rfl | rfl
      · exact e0 _ rfl
      · exact e1 _ rfl
      · exact e2 _ rfl
      · exact e3 _ rfl
      · exact e4 _ rfl
      · exact e5 _ rfl
      · exact e6 _ rfl
      · exact e7 _ rfl
    have hact := act_fold _ hB hv (by kernel_rfl)
    subst hact
    clear hv hall hB
    refine (‹∀ (a : Act) (w : World), Code.wp Try.prog _ _ a w → _›) _ w8 ?_
    simp only [List.foldl, List.setIfInBounds_toArray, List.set_cons_succ, List.set_cons_zero]
    generalize w8 = w2 at *
    have HB2 := Lib.hid (HB1.out.trans (hC.mono HB1.out.size))
    have n2 := (hC.block w.heap.size (Array.getElem?_eq_some_iff.1 HN0.out).1).trans HN0.out
    have HN2 := Lib.hid n2
    obtain ⟨p0, p1, p2, p3⟩ := row4 n2
    have c0 := (HB2.out.cell (p := ⟨lb, 0, none⟩) HLB.out).trans HC.out
    have HXC : Hid (∀ W, Below w2.heap.size w2 W → W.cell? ⟨lb, 0, none⟩ = some (.pointer (some ⟨g, 0, none⟩)) ∧ W.cell? ⟨w.heap.size, 0, none⟩ = some (.int .i64 a.1) ∧ W.cell? ⟨w.heap.size, 1, none⟩ = some (.int .i64 a.2) ∧ W.cell? ⟨w.heap.size, 2, none⟩ = some (.int .i64 b.1) ∧ W.cell? ⟨w.heap.size, 3, none⟩ = some (.int .i64 b.2)) := Lib.hid fun W hW => ⟨(hW.cell (p := ⟨lb, 0, none⟩) (Nat.lt_of_lt_of_le HLB.out HB2.out.size)).trans c0, row4 ((hW.block _ (Array.getElem?_eq_some_iff.1 n2).1).trans n2)⟩
    clear hC n2
    obtain rfl : ka = 2 := by rw [HEKA.out]; exact hkn
    go_upto_region 7 with fail
    clear p0 p1 p2 p3 c0
    by_cases hkk : kb = 2
    · subst hkk
      refine wp_region_slotsG (psi [isV (.pointer (some ⟨lb, 0, none⟩)), isV (.pointer (some ⟨lb, 0, none⟩)), isV (.pointer (some ⟨lb, 0, none⟩)), isV (.pointer (some ⟨g, 0, none⟩)), isV (.pointer (some ⟨w.heap.size, 2, none⟩)), isV (.agg #[.int .i64 b.1, .int .i64 b.2]), isV (.int .i64 2), isV (.int .i64 2), isV (.bool true), isV (.bool true), isV (.pointer (some ⟨lb, 0, none⟩)), isV (.pointer (some ⟨lb, 0, none⟩)), isV (.pointer (some ⟨lb, 0, none⟩)), isV (.pointer (some ⟨g, 0, none⟩)), isV (.pointer (some ⟨w.heap.size, 0, none⟩)), isV (.agg #[.int .i64 a.1, .int .i64 a.2]), isV (.int .i64 ((la : Nat) : Int)), isV (.pointer (some ⟨lb, 0, none⟩)), isV (.pointer (some ⟨lb, 0, none⟩)), isV (.pointer (some ⟨lb, 0, none⟩)), isV (.pointer (some ⟨g, 0, none⟩)), isV (.pointer (some ⟨w.heap.size, 2, none⟩)), isV (.agg #[.int .i64 b.1, .int .i64 b.2]), isV (.int .i64 ((nb : Nat) : Int)), isV (.bool (((la : Nat) : Int) == ((nb : Nat) : Int))), isV (.bool (((la : Nat) : Int) == ((nb : Nat) : Int))), isV (.bool (((la : Nat) : Int) == ((nb : Nat) : Int)))]) (fun W => Below w2.heap.size w2 W) (by kernel_rfl) (Below.refl _ _).drew (psi_mono ?_) (by kernel_rfl) (by kernel_rfl) ?_ ?_
      · intro p hp
        simp only [List.mem_cons, List.not_mem_nil, or_false] at hp
        (repeat' rcases hp with rfl | hp) <;> first | exact isV_stays _ | (subst hp; exact isV_stays _)
      · refine AllOps.cons ?_ ?_
        · intro aa W hC hB hdep
          refine .inl ⟨rfl, ?_⟩
          have b0 : aa.tmps.getD 0 undef = .pointer (some ⟨lb, 0, none⟩) := hB.off 0 (by kernel_rfl)
          clear hB hdep
          refine goes_value (v := .pointer (some ⟨lb, 0, none⟩)) ?_ hC rfl
          simp only [execOp, Act.eval, b0]
          go_simp
        refine AllOps.cons ?_ ?_
        · intro aa W hC hB hdep
          refine .inl ⟨rfl, ?_⟩
          obtain ⟨x0, (q0 : x0 = .pointer (some ⟨lb, 0, none⟩)), e0⟩ := hdep 0 19 (by kernel_rfl)
          subst q0
          clear hB hdep
          refine goes_value (v := .pointer (some ⟨lb, 0, none⟩)) ?_ hC rfl
          simp only [execOp, Act.eval, e0]
          go_simp
        refine AllOps.cons ?_ ?_
        · intro aa W hC hB hdep
          refine .inl ⟨rfl, ?_⟩
          obtain ⟨x0, (q0 : x0 = .pointer (some ⟨lb, 0, none⟩)), e0⟩ := hdep 1 20 (by kernel_rfl)
          subst q0
          clear hB hdep
          refine goes_value (v := .pointer (some ⟨lb, 0, none⟩)) ?_ hC rfl
          simp only [execOp, Act.eval, e0]
          go_simp
        refine AllOps.cons ?_ ?_
        · intro aa W hC hB hdep
          refine .inl ⟨rfl, ?_⟩
          obtain ⟨x0, (q0 : x0 = .pointer (some ⟨lb, 0, none⟩)), e0⟩ := hdep 2 21 (by kernel_rfl)
          subst q0
          obtain ⟨c0, p0, p1, p2, p3⟩ := HXC.out W hC
          clear hB hdep
          refine goes_value (v := .pointer (some ⟨g, 0, none⟩)) ?_ hC rfl
          simp only [execOp, Act.eval, e0]
          go_simp
        refine AllOps.cons ?_ ?_
        · intro aa W hC hB hdep
          refine .inl ⟨rfl, ?_⟩
          have b0 : aa.tmps.getD 3 undef = .pointer (some ⟨w.heap.size, 0, none⟩) := hB.off 3 (by kernel_rfl)
          clear hB hdep
          refine goes_value (v := .pointer (some ⟨w.heap.size, 2, none⟩)) ?_ hC rfl
          simp only [execOp, Act.eval, b0]
          go_simp
        refine AllOps.cons ?_ ?_
        · intro aa W hC hB hdep
          refine .inl ⟨rfl, ?_⟩
          obtain ⟨x0, (q0 : x0 = .pointer (some ⟨w.heap.size, 2, none⟩)), e0⟩ := hdep 4 23 (by kernel_rfl)
          subst q0
          obtain ⟨c0, p0, p1, p2, p3⟩ := HXC.out W hC
          clear hB hdep
          refine goes_value (v := .agg #[.int .i64 b.1, .int .i64 b.2]) ?_ hC rfl
          simp only [execOp, Act.eval, e0]
          go_simp
        refine AllOps.cons ?_ ?_
        · intro aa W hC hB hdep
          refine .inl ⟨rfl, ?_⟩
          obtain ⟨x0, (q0 : x0 = .pointer (some ⟨g, 0, none⟩)), e0⟩ := hdep 3 22 (by kernel_rfl)
          subst q0
          obtain ⟨x1, (q1 : x1 = .agg #[.int .i64 b.1, .int .i64 b.2]), e1⟩ := hdep 5 24 (by kernel_rfl)
          subst q1
          clear hB hdep
          refine goes_call (f := 26) (args := #[.pointer (some ⟨g, 0, none⟩), .agg #[.int .i64 b.1, .int .i64 b.2]]) ?_ ?_
          · simp only [execOp]
            go_simp
          · exact (HKB.out W (HS.out.below (HB2.out.trans (hC.mono HB2.out.size)))).mono fun e w7 ⟨he, hb⟩ => ⟨_, he, hC.trans (hb.mono hC.size), hb, rfl⟩
        refine AllOps.cons ?_ ?_
        · intro aa W hC hB hdep
          refine .inl ⟨rfl, ?_⟩
          have b0 : aa.tmps.getD 5 undef = .int .i64 2 := hB.off 5 (by kernel_rfl)
          clear hB hdep
          refine goes_value (v := .int .i64 2) ?_ hC rfl
          simp only [execOp, Act.eval, b0]
          go_simp
        refine AllOps.cons ?_ ?_
        · intro aa W hC hB hdep
          refine .inl ⟨rfl, ?_⟩
          obtain ⟨x0, (q0 : x0 = .int .i64 2), e0⟩ := hdep 6 25 (by kernel_rfl)
          subst q0
          obtain ⟨x1, (q1 : x1 = .int .i64 2), e1⟩ := hdep 7 26 (by kernel_rfl)
          subst q1
          clear hB hdep
          refine goes_value (v := .bool true) ?_ hC rfl
          simp only [execOp, Act.eval, e0, e1]
          go_simp
        refine AllOps.cons ?_ ?_
        · intro aa W hC hB hdep
          refine .inl ⟨rfl, ?_⟩
          obtain ⟨x0, (q0 : x0 = .bool true), e0⟩ := hdep 8 27 (by kernel_rfl)
          subst q0
          clear hB hdep
          refine goes_value (v := .bool true) ?_ hC rfl
          simp only [execOp, Act.eval, e0]
          go_simp
        refine AllOps.cons ?_ ?_
        · intro aa W hC hB hdep
          obtain ⟨xg, (qg : xg = .bool true), eg⟩ := hdep 9 28 (by kernel_rfl)
          subst qg
          refine .inl ⟨(wanted_is (g := 9) (t := 28) (b := true) (c := true) rfl rfl (by rw [hB.size]; exact Nat.le_of_ble_eq_true rfl) eg).trans rfl, ?_⟩
          have b0 : aa.tmps.getD 0 undef = .pointer (some ⟨lb, 0, none⟩) := hB.off 0 (by kernel_rfl)
          clear hB hdep
          refine goes_value (v := .pointer (some ⟨lb, 0, none⟩)) ?_ hC rfl
          simp only [execOp, Act.eval, b0]
          go_simp
        refine AllOps.cons ?_ ?_
        · intro aa W hC hB hdep
          obtain ⟨xg, (qg : xg = .bool true), eg⟩ := hdep 9 28 (by kernel_rfl)
          subst qg
          refine .inl ⟨(wanted_is (g := 9) (t := 28) (b := true) (c := true) rfl rfl (by rw [hB.size]; exact Nat.le_of_ble_eq_true rfl) eg).trans rfl, ?_⟩
          obtain ⟨x0, (q0 : x0 = .pointer (some ⟨lb, 0, none⟩)), e0⟩ := hdep 10 29 (by kernel_rfl)
          subst q0
          clear hB hdep
          refine goes_value (v := .pointer (some ⟨lb, 0, none⟩)) ?_ hC rfl
          simp only [execOp, Act.eval, e0]
          go_simp
        refine AllOps.cons ?_ ?_
        · intro aa W hC hB hdep
          obtain ⟨xg, (qg : xg = .bool true), eg⟩ := hdep 9 28 (by kernel_rfl)
          subst qg
          refine .inl ⟨(wanted_is (g := 9) (t := 28) (b := true) (c := true) rfl rfl (by rw [hB.size]; exact Nat.le_of_ble_eq_true rfl) eg).trans rfl, ?_⟩
          obtain ⟨x0, (q0 : x0 = .pointer (some ⟨lb, 0, none⟩)), e0⟩ := hdep 11 30 (by kernel_rfl)
          subst q0
          clear hB hdep
          refine goes_value (v := .pointer (some ⟨lb, 0, none⟩)) ?_ hC rfl
          simp only [execOp, Act.eval, e0]
          go_simp
        refine AllOps.cons ?_ ?_
        · intro aa W hC hB hdep
          obtain ⟨xg, (qg : xg = .bool true), eg⟩ := hdep 9 28 (by kernel_rfl)
          subst qg
          refine .inl ⟨(wanted_is (g := 9) (t := 28) (b := true) (c := true) rfl rfl (by rw [hB.size]; exact Nat.le_of_ble_eq_true rfl) eg).trans rfl, ?_⟩
          obtain ⟨x0, (q0 : x0 = .pointer (some ⟨lb, 0, none⟩)), e0⟩ := hdep 12 31 (by kernel_rfl)
          subst q0
          obtain ⟨c0, p0, p1, p2, p3⟩ := HXC.out W hC
          clear hB hdep
          refine goes_value (v := .pointer (some ⟨g, 0, none⟩)) ?_ hC rfl
          simp only [execOp, Act.eval, e0]
          go_simp
        refine AllOps.cons ?_ ?_
        · intro aa W hC hB hdep
          obtain ⟨xg, (qg : xg = .bool true), eg⟩ := hdep 9 28 (by kernel_rfl)
          subst qg
          refine .inl ⟨(wanted_is (g := 9) (t := 28) (b := true) (c := true) rfl rfl (by rw [hB.size]; exact Nat.le_of_ble_eq_true rfl) eg).trans rfl, ?_⟩
          have b0 : aa.tmps.getD 3 undef = .pointer (some ⟨w.heap.size, 0, none⟩) := hB.off 3 (by kernel_rfl)
          clear hB hdep
          refine goes_value (v := .pointer (some ⟨w.heap.size, 0, none⟩)) ?_ hC rfl
          simp only [execOp, Act.eval, b0]
          go_simp
        refine AllOps.cons ?_ ?_
        · intro aa W hC hB hdep
          obtain ⟨xg, (qg : xg = .bool true), eg⟩ := hdep 9 28 (by kernel_rfl)
          subst qg
          refine .inl ⟨(wanted_is (g := 9) (t := 28) (b := true) (c := true) rfl rfl (by rw [hB.size]; exact Nat.le_of_ble_eq_true rfl) eg).trans rfl, ?_⟩
          obtain ⟨x0, (q0 : x0 = .pointer (some ⟨w.heap.size, 0, none⟩)), e0⟩ := hdep 14 33 (by kernel_rfl)
          subst q0
          obtain ⟨c0, p0, p1, p2, p3⟩ := HXC.out W hC
          clear hB hdep
          refine goes_value (v := .agg #[.int .i64 a.1, .int .i64 a.2]) ?_ hC rfl
          simp only [execOp, Act.eval, e0]
          go_simp
        refine AllOps.cons ?_ ?_
        · intro aa W hC hB hdep
          obtain ⟨xg, (qg : xg = .bool true), eg⟩ := hdep 9 28 (by kernel_rfl)
          subst qg
          refine .inl ⟨(wanted_is (g := 9) (t := 28) (b := true) (c := true) rfl rfl (by rw [hB.size]; exact Nat.le_of_ble_eq_true rfl) eg).trans rfl, ?_⟩
          obtain ⟨x0, (q0 : x0 = .pointer (some ⟨g, 0, none⟩)), e0⟩ := hdep 13 32 (by kernel_rfl)
          subst q0
          obtain ⟨x1, (q1 : x1 = .agg #[.int .i64 a.1, .int .i64 a.2]), e1⟩ := hdep 15 34 (by kernel_rfl)
          subst q1
          clear hB hdep
          refine goes_call (f := 27) (args := #[.pointer (some ⟨g, 0, none⟩), .agg #[.int .i64 a.1, .int .i64 a.2]]) ?_ ?_
          · simp only [execOp]
            go_simp
          · exact (HLA.out W (HS.out.below (HB2.out.trans (hC.mono HB2.out.size)))).mono fun e w7 ⟨he, hb⟩ => ⟨_, he, hC.trans (hb.mono hC.size), hb, rfl⟩
        refine AllOps.cons ?_ ?_
        · intro aa W hC hB hdep
          obtain ⟨xg, (qg : xg = .bool true), eg⟩ := hdep 9 28 (by kernel_rfl)
          subst qg
          refine .inl ⟨(wanted_is (g := 9) (t := 28) (b := true) (c := true) rfl rfl (by rw [hB.size]; exact Nat.le_of_ble_eq_true rfl) eg).trans rfl, ?_⟩
          have b0 : aa.tmps.getD 0 undef = .pointer (some ⟨lb, 0, none⟩) := hB.off 0 (by kernel_rfl)
          clear hB hdep
          refine goes_value (v := .pointer (some ⟨lb, 0, none⟩)) ?_ hC rfl
          simp only [execOp, Act.eval, b0]
          go_simp
        refine AllOps.cons ?_ ?_
        · intro aa W hC hB hdep
          obtain ⟨xg, (qg : xg = .bool true), eg⟩ := hdep 9 28 (by kernel_rfl)
          subst qg
          refine .inl ⟨(wanted_is (g := 9) (t := 28) (b := true) (c := true) rfl rfl (by rw [hB.size]; exact Nat.le_of_ble_eq_true rfl) eg).trans rfl, ?_⟩
          obtain ⟨x0, (q0 : x0 = .pointer (some ⟨lb, 0, none⟩)), e0⟩ := hdep 17 36 (by kernel_rfl)
          subst q0
          clear hB hdep
          refine goes_value (v := .pointer (some ⟨lb, 0, none⟩)) ?_ hC rfl
          simp only [execOp, Act.eval, e0]
          go_simp
        refine AllOps.cons ?_ ?_
        · intro aa W hC hB hdep
          obtain ⟨xg, (qg : xg = .bool true), eg⟩ := hdep 9 28 (by kernel_rfl)
          subst qg
          refine .inl ⟨(wanted_is (g := 9) (t := 28) (b := true) (c := true) rfl rfl (by rw [hB.size]; exact Nat.le_of_ble_eq_true rfl) eg).trans rfl, ?_⟩
          obtain ⟨x0, (q0 : x0 = .pointer (some ⟨lb, 0, none⟩)), e0⟩ := hdep 18 37 (by kernel_rfl)
          subst q0
          clear hB hdep
          refine goes_value (v := .pointer (some ⟨lb, 0, none⟩)) ?_ hC rfl
          simp only [execOp, Act.eval, e0]
          go_simp
        refine AllOps.cons ?_ ?_
        · intro aa W hC hB hdep
          obtain ⟨xg, (qg : xg = .bool true), eg⟩ := hdep 9 28 (by kernel_rfl)
          subst qg
          refine .inl ⟨(wanted_is (g := 9) (t := 28) (b := true) (c := true) rfl rfl (by rw [hB.size]; exact Nat.le_of_ble_eq_true rfl) eg).trans rfl, ?_⟩
          obtain ⟨x0, (q0 : x0 = .pointer (some ⟨lb, 0, none⟩)), e0⟩ := hdep 19 38 (by kernel_rfl)
          subst q0
          obtain ⟨c0, p0, p1, p2, p3⟩ := HXC.out W hC
          clear hB hdep
          refine goes_value (v := .pointer (some ⟨g, 0, none⟩)) ?_ hC rfl
          simp only [execOp, Act.eval, e0]
          go_simp
        refine AllOps.cons ?_ ?_
        · intro aa W hC hB hdep
          obtain ⟨xg, (qg : xg = .bool true), eg⟩ := hdep 9 28 (by kernel_rfl)
          subst qg
          refine .inl ⟨(wanted_is (g := 9) (t := 28) (b := true) (c := true) rfl rfl (by rw [hB.size]; exact Nat.le_of_ble_eq_true rfl) eg).trans rfl, ?_⟩
          have b0 : aa.tmps.getD 3 undef = .pointer (some ⟨w.heap.size, 0, none⟩) := hB.off 3 (by kernel_rfl)
          clear hB hdep
          refine goes_value (v := .pointer (some ⟨w.heap.size, 2, none⟩)) ?_ hC rfl
          simp only [execOp, Act.eval, b0]
          go_simp
        refine AllOps.cons ?_ ?_
        · intro aa W hC hB hdep
          obtain ⟨xg, (qg : xg = .bool true), eg⟩ := hdep 9 28 (by kernel_rfl)
          subst qg
          refine .inl ⟨(wanted_is (g := 9) (t := 28) (b := true) (c := true) rfl rfl (by rw [hB.size]; exact Nat.le_of_ble_eq_true rfl) eg).trans rfl, ?_⟩
          obtain ⟨x0, (q0 : x0 = .pointer (some ⟨w.heap.size, 2, none⟩)), e0⟩ := hdep 21 40 (by kernel_rfl)
          subst q0
          obtain ⟨c0, p0, p1, p2, p3⟩ := HXC.out W hC
          clear hB hdep
          refine goes_value (v := .agg #[.int .i64 b.1, .int .i64 b.2]) ?_ hC rfl
          simp only [execOp, Act.eval, e0]
          go_simp
        refine AllOps.cons ?_ ?_
        · intro aa W hC hB hdep
          obtain ⟨xg, (qg : xg = .bool true), eg⟩ := hdep 9 28 (by kernel_rfl)
          subst qg
          refine .inl ⟨(wanted_is (g := 9) (t := 28) (b := true) (c := true) rfl rfl (by rw [hB.size]; exact Nat.le_of_ble_eq_true rfl) eg).trans rfl, ?_⟩
          obtain ⟨x0, (q0 : x0 = .pointer (some ⟨g, 0, none⟩)), e0⟩ := hdep 20 39 (by kernel_rfl)
          subst q0
          obtain ⟨x1, (q1 : x1 = .agg #[.int .i64 b.1, .int .i64 b.2]), e1⟩ := hdep 22 41 (by kernel_rfl)
          subst q1
          clear hB hdep
          refine goes_call (f := 27) (args := #[.pointer (some ⟨g, 0, none⟩), .agg #[.int .i64 b.1, .int .i64 b.2]]) ?_ ?_
          · simp only [execOp]
            go_simp
          · exact (HNB.out W (HS.out.below (HB2.out.trans (hC.mono HB2.out.size)))).mono fun e w7 ⟨he, hb⟩ => ⟨_, he, hC.trans (hb.mono hC.size), hb, rfl⟩
        refine AllOps.cons ?_ ?_
        · intro aa W hC hB hdep
          obtain ⟨xg, (qg : xg = .bool true), eg⟩ := hdep 9 28 (by kernel_rfl)
          subst qg
          refine .inl ⟨(wanted_is (g := 9) (t := 28) (b := true) (c := true) rfl rfl (by rw [hB.size]; exact Nat.le_of_ble_eq_true rfl) eg).trans rfl, ?_⟩
          obtain ⟨x0, (q0 : x0 = .int .i64 ((la : Nat) : Int)), e0⟩ := hdep 16 35 (by kernel_rfl)
          subst q0
          obtain ⟨x1, (q1 : x1 = .int .i64 ((nb : Nat) : Int)), e1⟩ := hdep 23 42 (by kernel_rfl)
          subst q1
          clear hB hdep
          refine goes_value (v := .bool (((la : Nat) : Int) == ((nb : Nat) : Int))) ?_ hC rfl
          simp only [execOp, Act.eval, e0, e1]
          go_simp
        refine AllOps.cons ?_ ?_
        · intro aa W hC hB hdep
          refine .inl ⟨rfl, ?_⟩
          obtain ⟨x0, (q0 : x0 = .bool true), e0⟩ := hdep 9 28 (by kernel_rfl)
          subst q0
          obtain ⟨x1, (q1 : x1 = .bool (((la : Nat) : Int) == ((nb : Nat) : Int))), e1⟩ := hdep 24 43 (by kernel_rfl)
          subst q1
          clear hB hdep
          refine goes_value (v := .bool (((la : Nat) : Int) == ((nb : Nat) : Int))) ?_ hC rfl
          simp only [execOp, Act.eval, e0, e1]
          go_simp
        refine AllOps.cons ?_ ?_
        · intro aa W hC hB hdep
          refine .inl ⟨rfl, ?_⟩
          obtain ⟨x0, (q0 : x0 = .bool (((la : Nat) : Int) == ((nb : Nat) : Int))), e0⟩ := hdep 25 44 (by kernel_rfl)
          subst q0
          clear hB hdep
          refine goes_value (v := .bool (((la : Nat) : Int) == ((nb : Nat) : Int))) ?_ hC rfl
          simp only [execOp, Act.eval, e0]
          go_simp
        exact trivial
      · intro aa w8 hC hB hall
        have hv : ∀ p ∈ [((19 : Nat), (.pointer (some ⟨lb, 0, none⟩) : Value)), ((20 : Nat), (.pointer (some ⟨lb, 0, none⟩) : Value)), ((21 : Nat), (.pointer (some ⟨lb, 0, none⟩) : Value)), ((22 : Nat), (.pointer (some ⟨g, 0, none⟩) : Value)), ((23 : Nat), (.pointer (some ⟨w.heap.size, 2, none⟩) : Value)), ((24 : Nat), (.agg #[.int .i64 b.1, .int .i64 b.2] : Value)), ((25 : Nat), (.int .i64 2 : Value)), ((26 : Nat), (.int .i64 2 : Value)), ((27 : Nat), (.bool true : Value)), ((28 : Nat), (.bool true : Value)), ((29 : Nat), (.pointer (some ⟨lb, 0, none⟩) : Value)), ((30 : Nat), (.pointer (some ⟨lb, 0, none⟩) : Value)), ((31 : Nat), (.pointer (some ⟨lb, 0, none⟩) : Value)), ((32 : Nat), (.pointer (some ⟨g, 0, none⟩) : Value)), ((33 : Nat), (.pointer (some ⟨w.heap.size, 0, none⟩) : Value)), ((34 : Nat), (.agg #[.int .i64 a.1, .int .i64 a.2] : Value)), ((35 : Nat), (.int .i64 ((la : Nat) : Int) : Value)), ((36 : Nat), (.pointer (some ⟨lb, 0, none⟩) : Value)), ((37 : Nat), (.pointer (some ⟨lb, 0, none⟩) : Value)), ((38 : Nat), (.pointer (some ⟨lb, 0, none⟩) : Value)), ((39 : Nat), (.pointer (some ⟨g, 0, none⟩) : Value)), ((40 : Nat), (.pointer (some ⟨w.heap.size, 2, none⟩) : Value)), ((41 : Nat), (.agg #[.int .i64 b.1, .int .i64 b.2] : Value)), ((42 : Nat), (.int .i64 ((nb : Nat) : Int) : Value)), ((43 : Nat), (.bool (((la : Nat) : Int) == ((nb : Nat) : Int)) : Value)), ((44 : Nat), (.bool (((la : Nat) : Int) == ((nb : Nat) : Int)) : Value)), ((4 : Nat), (.bool (((la : Nat) : Int) == ((nb : Nat) : Int)) : Value))], aa.tmps.getD p.1 undef = p.2 := by
          obtain ⟨_, (k0 : _ = _), e0⟩ := hall 0 _ rfl
          obtain ⟨_, (k1 : _ = _), e1⟩ := hall 1 _ rfl
          obtain ⟨_, (k2 : _ = _), e2⟩ := hall 2 _ rfl
          obtain ⟨_, (k3 : _ = _), e3⟩ := hall 3 _ rfl
          obtain ⟨_, (k4 : _ = _), e4⟩ := hall 4 _ rfl
          obtain ⟨_, (k5 : _ = _), e5⟩ := hall 5 _ rfl
          obtain ⟨_, (k6 : _ = _), e6⟩ := hall 6 _ rfl
          obtain ⟨_, (k7 : _ = _), e7⟩ := hall 7 _ rfl
          obtain ⟨_, (k8 : _ = _), e8⟩ := hall 8 _ rfl
          obtain ⟨_, (k9 : _ = _), e9⟩ := hall 9 _ rfl
          obtain ⟨_, (k10 : _ = _), e10⟩ := hall 10 _ rfl
          obtain ⟨_, (k11 : _ = _), e11⟩ := hall 11 _ rfl
          obtain ⟨_, (k12 : _ = _), e12⟩ := hall 12 _ rfl
          obtain ⟨_, (k13 : _ = _), e13⟩ := hall 13 _ rfl
          obtain ⟨_, (k14 : _ = _), e14⟩ := hall 14 _ rfl
          obtain ⟨_, (k15 : _ = _), e15⟩ := hall 15 _ rfl
          obtain ⟨_, (k16 : _ = _), e16⟩ := hall 16 _ rfl
          obtain ⟨_, (k17 : _ = _), e17⟩ := hall 17 _ rfl
          obtain ⟨_, (k18 : _ = _), e18⟩ := hall 18 _ rfl
          obtain ⟨_, (k19 : _ = _), e19⟩ := hall 19 _ rfl
          obtain ⟨_, (k20 : _ = _), e20⟩ := hall 20 _ rfl
          obtain ⟨_, (k21 : _ = _), e21⟩ := hall 21 _ rfl
          obtain ⟨_, (k22 : _ = _), e22⟩ := hall 22 _ rfl
          obtain ⟨_, (k23 : _ = _), e23⟩ := hall 23 _ rfl
          obtain ⟨_, (k24 : _ = _), e24⟩ := hall 24 _ rfl
          obtain ⟨_, (k25 : _ = _), e25⟩ := hall 25 _ rfl
          obtain ⟨_, (k26 : _ = _), e26⟩ := hall 26 _ rfl
          subst k0 k1 k2 k3 k4 k5 k6 k7 k8 k9 k10 k11 k12 k13 k14 k15 k16 k17 k18 k19 k20 k21 k22 k23 k24 k25 k26
          intro p hp
          simp only [List.mem_cons, List.not_mem_nil, or_false] at hp
          rcases hp with rfl | rfl | rfl | rfl | rfl | rfl | rfl | rfl | rfl | rfl | rfl | rfl | rfl | rfl | rfl | rfl | rfl | rfl | rfl | rfl | rfl | rfl | rfl | rfl | rfl | rfl | rfl
          · exact e0 _ rfl
          · exact e1 _ rfl
          · exact e2 _ rfl
          · exact e3 _ rfl
          · exact e4 _ rfl
          · exact e5 _ rfl
          · exact e6 _ rfl
          · exact e7 _ rfl
          · exact e8 _ rfl
          · exact e9 _ rfl
          · exact e10 _ rfl
          · exact e11 _ rfl
          · exact e12 _ rfl
          · exact e13 _ rfl
          · exact e14 _ rfl
          · exact e15 _ rfl
          · exact e16 _ rfl
          · exact e17 _ rfl
          · exact e18 _ rfl
          · exact e19 _ rfl
          · exact e20 _ rfl
          · exact e21 _ rfl
          · exact e22 _ rfl
          · exact e23 _ rfl
          · exact e24 _ rfl
          · exact e25 _ rfl
          · exact e26 _ rfl
        have hact := act_fold _ hB hv (by kernel_rfl)
        subst hact
        clear hv hall hB
        refine (‹∀ (a : Act) (w : World), Code.wp Try.prog _ _ a w → _›) _ w8 ?_
        simp only [List.foldl, List.setIfInBounds_toArray, List.set_cons_succ, List.set_cons_zero]
        go_wp2_with fail
        go_ret
        refine ⟨ret_bl ?_, HB2.out.trans (hC.mono HB2.out.size)⟩
        by_cases hln : la = nb
        · rw [compA_yes (by rw [← HEKA.out]; decide) (by rw [← HEKA.out]; decide) (by rw [← HEKA.out, ← HEKB.out]) (by rw [← HELA.out, ← HELB.out]; exact hln)]
          simp [hln]
        · rw [compA_len (by rw [← HELA.out, ← HELB.out]; exact hln), beq_eq_false_iff_ne]
          omega
    · have hkf : (kb == 2) = false := by rw [beq_eq_false_iff_ne]; exact hkk
      refine wp_region_slotsG (psi [isV (.pointer (some ⟨lb, 0, none⟩)), isV (.pointer (some ⟨lb, 0, none⟩)), isV (.pointer (some ⟨lb, 0, none⟩)), isV (.pointer (some ⟨g, 0, none⟩)), isV (.pointer (some ⟨w.heap.size, 2, none⟩)), isV (.agg #[.int .i64 b.1, .int .i64 b.2]), isV (.int .i64 kb), isV (.int .i64 2), isV (.bool false), isV (.bool false), isV (undef), isV (undef), isV (undef), isV (undef), isV (undef), isV (undef), isV (undef), isV (undef), isV (undef), isV (undef), isV (undef), isV (undef), isV (undef), isV (undef), isV (undef), isV (.bool false), isV (.bool false)]) (fun W => Below w2.heap.size w2 W) (by kernel_rfl) (Below.refl _ _).drew (psi_mono ?_) (by kernel_rfl) (by kernel_rfl) ?_ ?_
      · intro p hp
        simp only [List.mem_cons, List.not_mem_nil, or_false] at hp
        (repeat' rcases hp with rfl | hp) <;> first | exact isV_stays _ | (subst hp; exact isV_stays _)
      · refine AllOps.cons ?_ ?_
        · intro aa W hC hB hdep
          refine .inl ⟨rfl, ?_⟩
          have b0 : aa.tmps.getD 0 undef = .pointer (some ⟨lb, 0, none⟩) := hB.off 0 (by kernel_rfl)
          clear hB hdep
          refine goes_value (v := .pointer (some ⟨lb, 0, none⟩)) ?_ hC rfl
          simp only [execOp, Act.eval, b0]
          go_simp
        refine AllOps.cons ?_ ?_
        · intro aa W hC hB hdep
          refine .inl ⟨rfl, ?_⟩
          obtain ⟨x0, (q0 : x0 = .pointer (some ⟨lb, 0, none⟩)), e0⟩ := hdep 0 19 (by kernel_rfl)
          subst q0
          clear hB hdep
          refine goes_value (v := .pointer (some ⟨lb, 0, none⟩)) ?_ hC rfl
          simp only [execOp, Act.eval, e0]
          go_simp
        refine AllOps.cons ?_ ?_
        · intro aa W hC hB hdep
          refine .inl ⟨rfl, ?_⟩
          obtain ⟨x0, (q0 : x0 = .pointer (some ⟨lb, 0, none⟩)), e0⟩ := hdep 1 20 (by kernel_rfl)
          subst q0
          clear hB hdep
          refine goes_value (v := .pointer (some ⟨lb, 0, none⟩)) ?_ hC rfl
          simp only [execOp, Act.eval, e0]
          go_simp
        refine AllOps.cons ?_ ?_
        · intro aa W hC hB hdep
          refine .inl ⟨rfl, ?_⟩
          obtain ⟨x0, (q0 : x0 = .pointer (some ⟨lb, 0, none⟩)), e0⟩ := hdep 2 21 (by kernel_rfl)
          subst q0
          obtain ⟨c0, p0, p1, p2, p3⟩ := HXC.out W hC
          clear hB hdep
          refine goes_value (v := .pointer (some ⟨g, 0, none⟩)) ?_ hC rfl
          simp only [execOp, Act.eval, e0]
          go_simp
        refine AllOps.cons ?_ ?_
        · intro aa W hC hB hdep
          refine .inl ⟨rfl, ?_⟩
          have b0 : aa.tmps.getD 3 undef = .pointer (some ⟨w.heap.size, 0, none⟩) := hB.off 3 (by kernel_rfl)
          clear hB hdep
          refine goes_value (v := .pointer (some ⟨w.heap.size, 2, none⟩)) ?_ hC rfl
          simp only [execOp, Act.eval, b0]
          go_simp
        refine AllOps.cons ?_ ?_
        · intro aa W hC hB hdep
          refine .inl ⟨rfl, ?_⟩
          obtain ⟨x0, (q0 : x0 = .pointer (some ⟨w.heap.size, 2, none⟩)), e0⟩ := hdep 4 23 (by kernel_rfl)
          subst q0
          obtain ⟨c0, p0, p1, p2, p3⟩ := HXC.out W hC
          clear hB hdep
          refine goes_value (v := .agg #[.int .i64 b.1, .int .i64 b.2]) ?_ hC rfl
          simp only [execOp, Act.eval, e0]
          go_simp
        refine AllOps.cons ?_ ?_
        · intro aa W hC hB hdep
          refine .inl ⟨rfl, ?_⟩
          obtain ⟨x0, (q0 : x0 = .pointer (some ⟨g, 0, none⟩)), e0⟩ := hdep 3 22 (by kernel_rfl)
          subst q0
          obtain ⟨x1, (q1 : x1 = .agg #[.int .i64 b.1, .int .i64 b.2]), e1⟩ := hdep 5 24 (by kernel_rfl)
          subst q1
          clear hB hdep
          refine goes_call (f := 26) (args := #[.pointer (some ⟨g, 0, none⟩), .agg #[.int .i64 b.1, .int .i64 b.2]]) ?_ ?_
          · simp only [execOp]
            go_simp
          · exact (HKB.out W (HS.out.below (HB2.out.trans (hC.mono HB2.out.size)))).mono fun e w7 ⟨he, hb⟩ => ⟨_, he, hC.trans (hb.mono hC.size), hb, rfl⟩
        refine AllOps.cons ?_ ?_
        · intro aa W hC hB hdep
          refine .inl ⟨rfl, ?_⟩
          have b0 : aa.tmps.getD 5 undef = .int .i64 2 := hB.off 5 (by kernel_rfl)
          clear hB hdep
          refine goes_value (v := .int .i64 2) ?_ hC rfl
          simp only [execOp, Act.eval, b0]
          go_simp
        refine AllOps.cons ?_ ?_
        · intro aa W hC hB hdep
          refine .inl ⟨rfl, ?_⟩
          obtain ⟨x0, (q0 : x0 = .int .i64 kb), e0⟩ := hdep 6 25 (by kernel_rfl)
          subst q0
          obtain ⟨x1, (q1 : x1 = .int .i64 2), e1⟩ := hdep 7 26 (by kernel_rfl)
          subst q1
          clear hB hdep
          refine goes_value (v := .bool false) ?_ hC rfl
          simp only [execOp, Act.eval, e0, e1]
          go_simp
        refine AllOps.cons ?_ ?_
        · intro aa W hC hB hdep
          refine .inl ⟨rfl, ?_⟩
          obtain ⟨x0, (q0 : x0 = .bool false), e0⟩ := hdep 8 27 (by kernel_rfl)
          subst q0
          clear hB hdep
          refine goes_value (v := .bool false) ?_ hC rfl
          simp only [execOp, Act.eval, e0]
          go_simp
        refine AllOps.cons ?_ ?_
        · intro aa W hC hB hdep
          obtain ⟨xg, (qg : xg = .bool false), eg⟩ := hdep 9 28 (by kernel_rfl)
          subst qg
          exact .inr ⟨(wanted_is (g := 9) (t := 28) (b := true) (c := false) rfl rfl (by rw [hB.size]; exact Nat.le_of_ble_eq_true rfl) eg).trans rfl, rfl⟩
        refine AllOps.cons ?_ ?_
        · intro aa W hC hB hdep
          obtain ⟨xg, (qg : xg = .bool false), eg⟩ := hdep 9 28 (by kernel_rfl)
          subst qg
          exact .inr ⟨(wanted_is (g := 9) (t := 28) (b := true) (c := false) rfl rfl (by rw [hB.size]; exact Nat.le_of_ble_eq_true rfl) eg).trans rfl, rfl⟩
        refine AllOps.cons ?_ ?_
        · intro aa W hC hB hdep
          obtain ⟨xg, (qg : xg = .bool false), eg⟩ := hdep 9 28 (by kernel_rfl)
          subst qg
          exact .inr ⟨(wanted_is (g := 9) (t := 28) (b := true) (c := false) rfl rfl (by rw [hB.size]; exact Nat.le_of_ble_eq_true rfl) eg).trans rfl, rfl⟩
        refine AllOps.cons ?_ ?_
        · intro aa W hC hB hdep
          obtain ⟨xg, (qg : xg = .bool false), eg⟩ := hdep 9 28 (by kernel_rfl)
          subst qg
          exact .inr ⟨(wanted_is (g := 9) (t := 28) (b := true) (c := false) rfl rfl (by rw [hB.size]; exact Nat.le_of_ble_eq_true rfl) eg).trans rfl, rfl⟩
        refine AllOps.cons ?_ ?_
        · intro aa W hC hB hdep
          obtain ⟨xg, (qg : xg = .bool false), eg⟩ := hdep 9 28 (by kernel_rfl)
          subst qg
          exact .inr ⟨(wanted_is (g := 9) (t := 28) (b := true) (c := false) rfl rfl (by rw [hB.size]; exact Nat.le_of_ble_eq_true rfl) eg).trans rfl, rfl⟩
        refine AllOps.cons ?_ ?_
        · intro aa W hC hB hdep
          obtain ⟨xg, (qg : xg = .bool false), eg⟩ := hdep 9 28 (by kernel_rfl)
          subst qg
          exact .inr ⟨(wanted_is (g := 9) (t := 28) (b := true) (c := false) rfl rfl (by rw [hB.size]; exact Nat.le_of_ble_eq_true rfl) eg).trans rfl, rfl⟩
        refine AllOps.cons ?_ ?_
        · intro aa W hC hB hdep
          obtain ⟨xg, (qg : xg = .bool false), eg⟩ := hdep 9 28 (by kernel_rfl)
          subst qg
          exact .inr ⟨(wanted_is (g := 9) (t := 28) (b := true) (c := false) rfl rfl (by rw [hB.size]; exact Nat.le_of_ble_eq_true rfl) eg).trans rfl, rfl⟩
        refine AllOps.cons ?_ ?_
        · intro aa W hC hB hdep
          obtain ⟨xg, (qg : xg = .bool false), eg⟩ := hdep 9 28 (by kernel_rfl)
          subst qg
          exact .inr ⟨(wanted_is (g := 9) (t := 28) (b := true) (c := false) rfl rfl (by rw [hB.size]; exact Nat.le_of_ble_eq_true rfl) eg).trans rfl, rfl⟩
        refine AllOps.cons ?_ ?_
        · intro aa W hC hB hdep
          obtain ⟨xg, (qg : xg = .bool false), eg⟩ := hdep 9 28 (by kernel_rfl)
          subst qg
          exact .inr ⟨(wanted_is (g := 9) (t := 28) (b := true) (c := false) rfl rfl (by rw [hB.size]; exact Nat.le_of_ble_eq_true rfl) eg).trans rfl, rfl⟩
        refine AllOps.cons ?_ ?_
        · intro aa W hC hB hdep
          obtain ⟨xg, (qg : xg = .bool false), eg⟩ := hdep 9 28 (by kernel_rfl)
          subst qg
          exact .inr ⟨(wanted_is (g := 9) (t := 28) (b := true) (c := false) rfl rfl (by rw [hB.size]; exact Nat.le_of_ble_eq_true rfl) eg).trans rfl, rfl⟩
        refine AllOps.cons ?_ ?_
        · intro aa W hC hB hdep
          obtain ⟨xg, (qg : xg = .bool false), eg⟩ := hdep 9 28 (by kernel_rfl)
          subst qg
          exact .inr ⟨(wanted_is (g := 9) (t := 28) (b := true) (c := false) rfl rfl (by rw [hB.size]; exact Nat.le_of_ble_eq_true rfl) eg).trans rfl, rfl⟩
        refine AllOps.cons ?_ ?_
        · intro aa W hC hB hdep
          obtain ⟨xg, (qg : xg = .bool false), eg⟩ := hdep 9 28 (by kernel_rfl)
          subst qg
          exact .inr ⟨(wanted_is (g := 9) (t := 28) (b := true) (c := false) rfl rfl (by rw [hB.size]; exact Nat.le_of_ble_eq_true rfl) eg).trans rfl, rfl⟩
        refine AllOps.cons ?_ ?_
        · intro aa W hC hB hdep
          obtain ⟨xg, (qg : xg = .bool false), eg⟩ := hdep 9 28 (by kernel_rfl)
          subst qg
          exact .inr ⟨(wanted_is (g := 9) (t := 28) (b := true) (c := false) rfl rfl (by rw [hB.size]; exact Nat.le_of_ble_eq_true rfl) eg).trans rfl, rfl⟩
        refine AllOps.cons ?_ ?_
        · intro aa W hC hB hdep
          obtain ⟨xg, (qg : xg = .bool false), eg⟩ := hdep 9 28 (by kernel_rfl)
          subst qg
          exact .inr ⟨(wanted_is (g := 9) (t := 28) (b := true) (c := false) rfl rfl (by rw [hB.size]; exact Nat.le_of_ble_eq_true rfl) eg).trans rfl, rfl⟩
        refine AllOps.cons ?_ ?_
        · intro aa W hC hB hdep
          obtain ⟨xg, (qg : xg = .bool false), eg⟩ := hdep 9 28 (by kernel_rfl)
          subst qg
          exact .inr ⟨(wanted_is (g := 9) (t := 28) (b := true) (c := false) rfl rfl (by rw [hB.size]; exact Nat.le_of_ble_eq_true rfl) eg).trans rfl, rfl⟩
        refine AllOps.cons ?_ ?_
        · intro aa W hC hB hdep
          refine .inl ⟨rfl, ?_⟩
          obtain ⟨x0, (q0 : x0 = .bool false), e0⟩ := hdep 9 28 (by kernel_rfl)
          subst q0
          obtain ⟨x1, (q1 : x1 = undef), e1⟩ := hdep 24 43 (by kernel_rfl)
          subst q1
          clear hB hdep
          refine goes_value (v := .bool false) ?_ hC rfl
          simp only [execOp, Act.eval, e0, e1]
          go_simp
        refine AllOps.cons ?_ ?_
        · intro aa W hC hB hdep
          refine .inl ⟨rfl, ?_⟩
          obtain ⟨x0, (q0 : x0 = .bool false), e0⟩ := hdep 25 44 (by kernel_rfl)
          subst q0
          clear hB hdep
          refine goes_value (v := .bool false) ?_ hC rfl
          simp only [execOp, Act.eval, e0]
          go_simp
        exact trivial
      · intro aa w8 hC hB hall
        have hv : ∀ p ∈ [((19 : Nat), (.pointer (some ⟨lb, 0, none⟩) : Value)), ((20 : Nat), (.pointer (some ⟨lb, 0, none⟩) : Value)), ((21 : Nat), (.pointer (some ⟨lb, 0, none⟩) : Value)), ((22 : Nat), (.pointer (some ⟨g, 0, none⟩) : Value)), ((23 : Nat), (.pointer (some ⟨w.heap.size, 2, none⟩) : Value)), ((24 : Nat), (.agg #[.int .i64 b.1, .int .i64 b.2] : Value)), ((25 : Nat), (.int .i64 kb : Value)), ((26 : Nat), (.int .i64 2 : Value)), ((27 : Nat), (.bool false : Value)), ((28 : Nat), (.bool false : Value)), ((29 : Nat), (undef : Value)), ((30 : Nat), (undef : Value)), ((31 : Nat), (undef : Value)), ((32 : Nat), (undef : Value)), ((33 : Nat), (undef : Value)), ((34 : Nat), (undef : Value)), ((35 : Nat), (undef : Value)), ((36 : Nat), (undef : Value)), ((37 : Nat), (undef : Value)), ((38 : Nat), (undef : Value)), ((39 : Nat), (undef : Value)), ((40 : Nat), (undef : Value)), ((41 : Nat), (undef : Value)), ((42 : Nat), (undef : Value)), ((43 : Nat), (undef : Value)), ((44 : Nat), (.bool false : Value)), ((4 : Nat), (.bool false : Value))], aa.tmps.getD p.1 undef = p.2 := by
          obtain ⟨_, (k0 : _ = _), e0⟩ := hall 0 _ rfl
          obtain ⟨_, (k1 : _ = _), e1⟩ := hall 1 _ rfl
          obtain ⟨_, (k2 : _ = _), e2⟩ := hall 2 _ rfl
          obtain ⟨_, (k3 : _ = _), e3⟩ := hall 3 _ rfl
          obtain ⟨_, (k4 : _ = _), e4⟩ := hall 4 _ rfl
          obtain ⟨_, (k5 : _ = _), e5⟩ := hall 5 _ rfl
          obtain ⟨_, (k6 : _ = _), e6⟩ := hall 6 _ rfl
          obtain ⟨_, (k7 : _ = _), e7⟩ := hall 7 _ rfl
          obtain ⟨_, (k8 : _ = _), e8⟩ := hall 8 _ rfl
          obtain ⟨_, (k9 : _ = _), e9⟩ := hall 9 _ rfl
          obtain ⟨_, (k10 : _ = _), e10⟩ := hall 10 _ rfl
          obtain ⟨_, (k11 : _ = _), e11⟩ := hall 11 _ rfl
          obtain ⟨_, (k12 : _ = _), e12⟩ := hall 12 _ rfl
          obtain ⟨_, (k13 : _ = _), e13⟩ := hall 13 _ rfl
          obtain ⟨_, (k14 : _ = _), e14⟩ := hall 14 _ rfl
          obtain ⟨_, (k15 : _ = _), e15⟩ := hall 15 _ rfl
          obtain ⟨_, (k16 : _ = _), e16⟩ := hall 16 _ rfl
          obtain ⟨_, (k17 : _ = _), e17⟩ := hall 17 _ rfl
          obtain ⟨_, (k18 : _ = _), e18⟩ := hall 18 _ rfl
          obtain ⟨_, (k19 : _ = _), e19⟩ := hall 19 _ rfl
          obtain ⟨_, (k20 : _ = _), e20⟩ := hall 20 _ rfl
          obtain ⟨_, (k21 : _ = _), e21⟩ := hall 21 _ rfl
          obtain ⟨_, (k22 : _ = _), e22⟩ := hall 22 _ rfl
          obtain ⟨_, (k23 : _ = _), e23⟩ := hall 23 _ rfl
          obtain ⟨_, (k24 : _ = _), e24⟩ := hall 24 _ rfl
          obtain ⟨_, (k25 : _ = _), e25⟩ := hall 25 _ rfl
          obtain ⟨_, (k26 : _ = _), e26⟩ := hall 26 _ rfl
          subst k0 k1 k2 k3 k4 k5 k6 k7 k8 k9 k10 k11 k12 k13 k14 k15 k16 k17 k18 k19 k20 k21 k22 k23 k24 k25 k26
          intro p hp
          simp only [List.mem_cons, List.not_mem_nil, or_false] at hp
          rcases hp with rfl | rfl | rfl | rfl | rfl | rfl | rfl | rfl | rfl | rfl | rfl | rfl | rfl | rfl | rfl | rfl | rfl | rfl | rfl | rfl | rfl | rfl | rfl | rfl | rfl | rfl | rfl
          · exact e0 _ rfl
          · exact e1 _ rfl
          · exact e2 _ rfl
          · exact e3 _ rfl
          · exact e4 _ rfl
          · exact e5 _ rfl
          · exact e6 _ rfl
          · exact e7 _ rfl
          · exact e8 _ rfl
          · exact e9 _ rfl
          · exact e10 _ rfl
          · exact e11 _ rfl
          · exact e12 _ rfl
          · exact e13 _ rfl
          · exact e14 _ rfl
          · exact e15 _ rfl
          · exact e16 _ rfl
          · exact e17 _ rfl
          · exact e18 _ rfl
          · exact e19 _ rfl
          · exact e20 _ rfl
          · exact e21 _ rfl
          · exact e22 _ rfl
          · exact e23 _ rfl
          · exact e24 _ rfl
          · exact e25 _ rfl
          · exact e26 _ rfl
        have hact := act_fold _ hB hv (by kernel_rfl)
        subst hact
        clear hv hall hB
        refine (‹∀ (a : Act) (w : World), Code.wp Try.prog _ _ a w → _›) _ w8 ?_
        simp only [List.foldl, List.setIfInBounds_toArray, List.set_cons_succ, List.set_cons_zero]
        go_wp2_with fail
        go_ret
        exact ⟨ret_bl (compA_kind (by rw [← HEKA.out, ← HEKB.out]; exact hkk)).symm, HB2.out.trans (hC.mono HB2.out.size)⟩

set_option maxRecDepth 100000 in
set_option maxHeartbeats 4000000 in
theorem comparable_3 (g lb : Nat) (R : Nat → Nat) (s : St) (a b : Int × Int) (w : World) (h : StW w g R s) (hlb : lb < w.heap.size) (hc : w.cell? ⟨lb, 0, none⟩ = some (.pointer (some ⟨g, 0, none⟩))) (hkn : s.kind a = 3) :
    Calls Try.prog 84 #[.pointer (some ⟨lb, 0, none⟩), .agg #[.int .i64 a.1, .int .i64 a.2, .int .i64 b.1, .int .i64 b.2]] w fun e w' => e = .returned (.bool (s.compA a b)) ∧ Below w.heap.size w w' := by
  have HS := Lib.hid h
  have HB1 := Lib.hid (below1 w (.cells #[.int .i64 a.1, .int .i64 a.2, .int .i64 b.1, .int .i64 b.2] 126))
  have n0 := box1 w #[.int .i64 a.1, .int .i64 a.2, .int .i64 b.1, .int .i64 b.2] 126
  have HN0 := Lib.hid n0
  obtain ⟨p0, p1, p2, p3⟩ := row4 n0
  have c0 := (HB1.out.cell (p := ⟨lb, 0, none⟩) hlb).trans hc
  have HC := Lib.hid hc
  have HLB := Lib.hid hlb
  obtain ⟨ka, hka⟩ : ∃ ka, ka = s.kind a := ⟨_, rfl⟩
  obtain ⟨kb, hkb⟩ : ∃ kb, kb = s.kind b := ⟨_, rfl⟩
  obtain ⟨la, hla⟩ : ∃ la, la = s.len a := ⟨_, rfl⟩
  obtain ⟨nb, hnb⟩ : ∃ nb, nb = s.len b := ⟨_, rfl⟩
  have HKA : Hid (∀ W, StW W g R s → Calls Try.prog 26 #[.pointer (some ⟨g, 0, none⟩), .agg #[.int .i64 a.1, .int .i64 a.2]] W fun e w' => e = .returned (.int .i64 ka) ∧ Below W.heap.size W w') := Lib.hid fun W hW => by rw [hka]; exact stkind_any g R s a W hW
  have HKB : Hid (∀ W, StW W g R s → Calls Try.prog 26 #[.pointer (some ⟨g, 0, none⟩), .agg #[.int .i64 b.1, .int .i64 b.2]] W fun e w' => e = .returned (.int .i64 kb) ∧ Below W.heap.size W w') := Lib.hid fun W hW => by rw [hkb]; exact stkind_any g R s b W hW
  have HLA : Hid (∀ W, StW W g R s → Calls Try.prog 27 #[.pointer (some ⟨g, 0, none⟩), .agg #[.int .i64 a.1, .int .i64 a.2]] W fun e w' => e = .returned (.int .i64 ((la : Nat) : Int)) ∧ Below W.heap.size W w') := Lib.hid fun W hW => by rw [hla]; exact stlen_any g R s a W hW
  have HNB : Hid (∀ W, StW W g R s → Calls Try.prog 27 #[.pointer (some ⟨g, 0, none⟩), .agg #[.int .i64 b.1, .int .i64 b.2]] W fun e w' => e = .returned (.int .i64 ((nb : Nat) : Int)) ∧ Below W.heap.size W w') := Lib.hid fun W hW => by rw [hnb]; exact stlen_any g R s b W hW
  have HEKA := Lib.hid hka
  have HEKB := Lib.hid hkb
  have HELA := Lib.hid hla
  have HELB := Lib.hid hnb
  clear h n0 hc hka hkb hla hnb hlb
  go_enter Try.func84, Try.ntmps84
  go_upto_region 1 with fail
  generalize w.alloc (.cells #[.int .i64 a.1, .int .i64 a.2, .int .i64 b.1, .int .i64 b.2] 126) = w1 at *
  clear p0 p1 p2 p3 c0
  have HX1 : Hid (∀ W, Below w1.heap.size w1 W → W.cell? ⟨lb, 0, none⟩ = some (.pointer (some ⟨g, 0, none⟩)) ∧ W.cell? ⟨w.heap.size, 0, none⟩ = some (.int .i64 a.1) ∧ W.cell? ⟨w.heap.size, 1, none⟩ = some (.int .i64 a.2) ∧ W.cell? ⟨w.heap.size, 2, none⟩ = some (.int .i64 b.1) ∧ W.cell? ⟨w.heap.size, 3, none⟩ = some (.int .i64 b.2)) := Lib.hid fun W hW => ⟨(hW.cell (p := ⟨lb, 0, none⟩) (Nat.lt_of_lt_of_le HLB.out HB1.out.size)).trans ((HB1.out.cell (p := ⟨lb, 0, none⟩) HLB.out).trans HC.out), row4 ((hW.block _ (Array.getElem?_eq_some_iff.1 HN0.out).1).trans HN0.out)⟩
  refine wp_region_slotsG (psi [isV (.pointer (some ⟨lb, 0, none⟩)), isV (.pointer (some ⟨lb, 0, none⟩)), isV (.pointer (some ⟨lb, 0, none⟩)), isV (.pointer (some ⟨g, 0, none⟩)), isV (.pointer (some ⟨w.heap.size, 0, none⟩)), isV (.agg #[.int .i64 a.1, .int .i64 a.2]), isV (.int .i64 ka), isV (.int .i64 ka)]) (fun W => Below w1.heap.size w1 W) (by kernel_rfl) (Below.refl _ _).drew (psi_mono ?_) (by kernel_rfl) (by kernel_rfl) ?_ ?_
  · intro p hp
    simp only [List.mem_cons, List.not_mem_nil, or_false] at hp
    (repeat' rcases hp with rfl | hp) <;> first | exact isV_stays _ | (subst hp; exact isV_stays _)
  · refine AllOps.cons ?_ ?_
    · intro aa W hC hB hdep
      refine .inl ⟨rfl, ?_⟩
      have b0 : aa.tmps.getD 0 undef = .pointer (some ⟨lb, 0, none⟩) := hB.off 0 (by kernel_rfl)
      clear hB hdep
      refine goes_value (v := .pointer (some ⟨lb, 0, none⟩)) ?_ hC rfl
      simp only [execOp, Act.eval, b0]
      go_simp
    refine AllOps.cons ?_ ?_
    · intro aa W hC hB hdep
      refine .inl ⟨rfl, ?_⟩
      obtain ⟨x0, (q0 : x0 = .pointer (some ⟨lb, 0, none⟩)), e0⟩ := hdep 0 6 (by kernel_rfl)
      subst q0
      clear hB hdep
      refine goes_value (v := .pointer (some ⟨lb, 0, none⟩)) ?_ hC rfl
      simp only [execOp, Act.eval, e0]
      go_simp
    refine AllOps.cons ?_ ?_
    · intro aa W hC hB hdep
      refine .inl ⟨rfl, ?_⟩
      obtain ⟨x0, (q0 : x0 = .pointer (some ⟨lb, 0, none⟩)), e0⟩ := hdep 1 7 (by kernel_rfl)
      subst q0
      clear hB hdep
      refine goes_value (v := .pointer (some ⟨lb, 0, none⟩)) ?_ hC rfl
      simp only [execOp, Act.eval, e0]
      go_simp
    refine AllOps.cons ?_ ?_
    · intro aa W hC hB hdep
      refine .inl ⟨rfl, ?_⟩
      obtain ⟨x0, (q0 : x0 = .pointer (some ⟨lb, 0, none⟩)), e0⟩ := hdep 2 8 (by kernel_rfl)
      subst q0
      obtain ⟨c0, p0, p1, p2, p3⟩ := HX1.out W hC
      clear hB hdep
      refine goes_value (v := .pointer (some ⟨g, 0, none⟩)) ?_ hC rfl
      simp only [execOp, Act.eval, e0]
      go_simp
    refine AllOps.cons ?_ ?_
    · intro aa W hC hB hdep
      refine .inl ⟨rfl, ?_⟩
      have b0 : aa.tmps.getD 3 undef = .pointer (some ⟨w.heap.size, 0, none⟩) := hB.off 3 (by kernel_rfl)
      clear hB hdep
      refine goes_value (v := .pointer (some ⟨w.heap.size, 0, none⟩)) ?_ hC rfl
      simp only [execOp, Act.eval, b0]
      go_simp
    refine AllOps.cons ?_ ?_
    · intro aa W hC hB hdep
      refine .inl ⟨rfl, ?_⟩
      obtain ⟨x0, (q0 : x0 = .pointer (some ⟨w.heap.size, 0, none⟩)), e0⟩ := hdep 4 10 (by kernel_rfl)
      subst q0
      obtain ⟨c0, p0, p1, p2, p3⟩ := HX1.out W hC
      clear hB hdep
      refine goes_value (v := .agg #[.int .i64 a.1, .int .i64 a.2]) ?_ hC rfl
      simp only [execOp, Act.eval, e0]
      go_simp
    refine AllOps.cons ?_ ?_
    · intro aa W hC hB hdep
      refine .inl ⟨rfl, ?_⟩
      obtain ⟨x0, (q0 : x0 = .pointer (some ⟨g, 0, none⟩)), e0⟩ := hdep 3 9 (by kernel_rfl)
      subst q0
      obtain ⟨x1, (q1 : x1 = .agg #[.int .i64 a.1, .int .i64 a.2]), e1⟩ := hdep 5 11 (by kernel_rfl)
      subst q1
      clear hB hdep
      refine goes_call (f := 26) (args := #[.pointer (some ⟨g, 0, none⟩), .agg #[.int .i64 a.1, .int .i64 a.2]]) ?_ ?_
      · simp only [execOp]
        go_simp
      · exact (HKA.out W (HS.out.below (HB1.out.trans (hC.mono HB1.out.size)))).mono fun e w7 ⟨he, hb⟩ => ⟨_, he, hC.trans (hb.mono hC.size), hb, rfl⟩
    refine AllOps.cons ?_ ?_
    · intro aa W hC hB hdep
      refine .inl ⟨rfl, ?_⟩
      obtain ⟨x0, (q0 : x0 = .int .i64 ka), e0⟩ := hdep 6 12 (by kernel_rfl)
      subst q0
      clear hB hdep
      refine goes_value (v := .int .i64 ka) ?_ hC rfl
      simp only [execOp, Act.eval, e0]
      go_simp
    exact trivial
  · intro aa w8 hC hB hall
    have hv : ∀ p ∈ [((6 : Nat), (.pointer (some ⟨lb, 0, none⟩) : Value)), ((7 : Nat), (.pointer (some ⟨lb, 0, none⟩) : Value)), ((8 : Nat), (.pointer (some ⟨lb, 0, none⟩) : Value)), ((9 : Nat), (.pointer (some ⟨g, 0, none⟩) : Value)), ((10 : Nat), (.pointer (some ⟨w.heap.size, 0, none⟩) : Value)), ((11 : Nat), (.agg #[.int .i64 a.1, .int .i64 a.2] : Value)), ((12 : Nat), (.int .i64 ka : Value)), ((5 : Nat), (.int .i64 ka : Value))], aa.tmps.getD p.1 undef = p.2 := by
      obtain ⟨_, (k0 : _ = _), e0⟩ := hall 0 _ rfl
      obtain ⟨_, (k1 : _ = _), e1⟩ := hall 1 _ rfl
      obtain ⟨_, (k2 : _ = _), e2⟩ := hall 2 _ rfl
      obtain ⟨_, (k3 : _ = _), e3⟩ := hall 3 _ rfl
      obtain ⟨_, (k4 : _ = _), e4⟩ := hall 4 _ rfl
      obtain ⟨_, (k5 : _ = _), e5⟩ := hall 5 _ rfl
      obtain ⟨_, (k6 : _ = _), e6⟩ := hall 6 _ rfl
      obtain ⟨_, (k7 : _ = _), e7⟩ := hall 7 _ rfl
      subst k0 k1 k2 k3 k4 k5 k6 k7
      intro p hp
      simp only [List.mem_cons, List.not_mem_nil, or_false] at hp
      rcases hp with rfl | rfl | rfl | rfl | rfl | rfl | rfl | rfl
      · exact e0 _ rfl
      · exact e1 _ rfl
      · exact e2 _ rfl
      · exact e3 _ rfl
      · exact e4 _ rfl
      · exact e5 _ rfl
      · exact e6 _ rfl
      · exact e7 _ rfl
    have hact := act_fold _ hB hv (by kernel_rfl)
    subst hact
    clear hv hall hB
    refine (‹∀ (a : Act) (w : World), Code.wp Try.prog _ _ a w → _›) _ w8 ?_
    simp only [List.foldl, List.setIfInBounds_toArray, List.set_cons_succ, List.set_cons_zero]
    generalize w8 = w2 at *
    have HB2 := Lib.hid (HB1.out.trans (hC.mono HB1.out.size))
    have n2 := (hC.block w.heap.size (Array.getElem?_eq_some_iff.1 HN0.out).1).trans HN0.out
    have HN2 := Lib.hid n2
    obtain ⟨p0, p1, p2, p3⟩ := row4 n2
    have c0 := (HB2.out.cell (p := ⟨lb, 0, none⟩) HLB.out).trans HC.out
    have HXC : Hid (∀ W, Below w2.heap.size w2 W → W.cell? ⟨lb, 0, none⟩ = some (.pointer (some ⟨g, 0, none⟩)) ∧ W.cell? ⟨w.heap.size, 0, none⟩ = some (.int .i64 a.1) ∧ W.cell? ⟨w.heap.size, 1, none⟩ = some (.int .i64 a.2) ∧ W.cell? ⟨w.heap.size, 2, none⟩ = some (.int .i64 b.1) ∧ W.cell? ⟨w.heap.size, 3, none⟩ = some (.int .i64 b.2)) := Lib.hid fun W hW => ⟨(hW.cell (p := ⟨lb, 0, none⟩) (Nat.lt_of_lt_of_le HLB.out HB2.out.size)).trans c0, row4 ((hW.block _ (Array.getElem?_eq_some_iff.1 n2).1).trans n2)⟩
    clear hC n2
    obtain rfl : ka = 3 := by rw [HEKA.out]; exact hkn
    go_upto_region 7 with fail
    clear p0 p1 p2 p3 c0
    by_cases hkk : kb = 3
    · subst hkk
      refine wp_region_slotsG (psi [isV (.pointer (some ⟨lb, 0, none⟩)), isV (.pointer (some ⟨lb, 0, none⟩)), isV (.pointer (some ⟨lb, 0, none⟩)), isV (.pointer (some ⟨g, 0, none⟩)), isV (.pointer (some ⟨w.heap.size, 2, none⟩)), isV (.agg #[.int .i64 b.1, .int .i64 b.2]), isV (.int .i64 3), isV (.int .i64 3), isV (.bool true), isV (.bool true), isV (.pointer (some ⟨lb, 0, none⟩)), isV (.pointer (some ⟨lb, 0, none⟩)), isV (.pointer (some ⟨lb, 0, none⟩)), isV (.pointer (some ⟨g, 0, none⟩)), isV (.pointer (some ⟨w.heap.size, 0, none⟩)), isV (.agg #[.int .i64 a.1, .int .i64 a.2]), isV (.int .i64 ((la : Nat) : Int)), isV (.pointer (some ⟨lb, 0, none⟩)), isV (.pointer (some ⟨lb, 0, none⟩)), isV (.pointer (some ⟨lb, 0, none⟩)), isV (.pointer (some ⟨g, 0, none⟩)), isV (.pointer (some ⟨w.heap.size, 2, none⟩)), isV (.agg #[.int .i64 b.1, .int .i64 b.2]), isV (.int .i64 ((nb : Nat) : Int)), isV (.bool (((la : Nat) : Int) == ((nb : Nat) : Int))), isV (.bool (((la : Nat) : Int) == ((nb : Nat) : Int))), isV (.bool (((la : Nat) : Int) == ((nb : Nat) : Int)))]) (fun W => Below w2.heap.size w2 W) (by kernel_rfl) (Below.refl _ _).drew (psi_mono ?_) (by kernel_rfl) (by kernel_rfl) ?_ ?_
      · intro p hp
        simp only [List.mem_cons, List.not_mem_nil, or_false] at hp
        (repeat' rcases hp with rfl | hp) <;> first | exact isV_stays _ | (subst hp; exact isV_stays _)
      · refine AllOps.cons ?_ ?_
        · intro aa W hC hB hdep
          refine .inl ⟨rfl, ?_⟩
          have b0 : aa.tmps.getD 0 undef = .pointer (some ⟨lb, 0, none⟩) := hB.off 0 (by kernel_rfl)
          clear hB hdep
          refine goes_value (v := .pointer (some ⟨lb, 0, none⟩)) ?_ hC rfl
          simp only [execOp, Act.eval, b0]
          go_simp
        refine AllOps.cons ?_ ?_
        · intro aa W hC hB hdep
          refine .inl ⟨rfl, ?_⟩
          obtain ⟨x0, (q0 : x0 = .pointer (some ⟨lb, 0, none⟩)), e0⟩ := hdep 0 19 (by kernel_rfl)
          subst q0
          clear hB hdep
          refine goes_value (v := .pointer (some ⟨lb, 0, none⟩)) ?_ hC rfl
          simp only [execOp, Act.eval, e0]
          go_simp
        refine AllOps.cons ?_ ?_
        · intro aa W hC hB hdep
          refine .inl ⟨rfl, ?_⟩
          obtain ⟨x0, (q0 : x0 = .pointer (some ⟨lb, 0, none⟩)), e0⟩ := hdep 1 20 (by kernel_rfl)
          subst q0
          clear hB hdep
          refine goes_value (v := .pointer (some ⟨lb, 0, none⟩)) ?_ hC rfl
          simp only [execOp, Act.eval, e0]
          go_simp
        refine AllOps.cons ?_ ?_
        · intro aa W hC hB hdep
          refine .inl ⟨rfl, ?_⟩
          obtain ⟨x0, (q0 : x0 = .pointer (some ⟨lb, 0, none⟩)), e0⟩ := hdep 2 21 (by kernel_rfl)
          subst q0
          obtain ⟨c0, p0, p1, p2, p3⟩ := HXC.out W hC
          clear hB hdep
          refine goes_value (v := .pointer (some ⟨g, 0, none⟩)) ?_ hC rfl
          simp only [execOp, Act.eval, e0]
          go_simp
        refine AllOps.cons ?_ ?_
        · intro aa W hC hB hdep
          refine .inl ⟨rfl, ?_⟩
          have b0 : aa.tmps.getD 3 undef = .pointer (some ⟨w.heap.size, 0, none⟩) := hB.off 3 (by kernel_rfl)
          clear hB hdep
          refine goes_value (v := .pointer (some ⟨w.heap.size, 2, none⟩)) ?_ hC rfl
          simp only [execOp, Act.eval, b0]
          go_simp
        refine AllOps.cons ?_ ?_
        · intro aa W hC hB hdep
          refine .inl ⟨rfl, ?_⟩
          obtain ⟨x0, (q0 : x0 = .pointer (some ⟨w.heap.size, 2, none⟩)), e0⟩ := hdep 4 23 (by kernel_rfl)
          subst q0
          obtain ⟨c0, p0, p1, p2, p3⟩ := HXC.out W hC
          clear hB hdep
          refine goes_value (v := .agg #[.int .i64 b.1, .int .i64 b.2]) ?_ hC rfl
          simp only [execOp, Act.eval, e0]
          go_simp
        refine AllOps.cons ?_ ?_
        · intro aa W hC hB hdep
          refine .inl ⟨rfl, ?_⟩
          obtain ⟨x0, (q0 : x0 = .pointer (some ⟨g, 0, none⟩)), e0⟩ := hdep 3 22 (by kernel_rfl)
          subst q0
          obtain ⟨x1, (q1 : x1 = .agg #[.int .i64 b.1, .int .i64 b.2]), e1⟩ := hdep 5 24 (by kernel_rfl)
          subst q1
          clear hB hdep
          refine goes_call (f := 26) (args := #[.pointer (some ⟨g, 0, none⟩), .agg #[.int .i64 b.1, .int .i64 b.2]]) ?_ ?_
          · simp only [execOp]
            go_simp
          · exact (HKB.out W (HS.out.below (HB2.out.trans (hC.mono HB2.out.size)))).mono fun e w7 ⟨he, hb⟩ => ⟨_, he, hC.trans (hb.mono hC.size), hb, rfl⟩
        refine AllOps.cons ?_ ?_
        · intro aa W hC hB hdep
          refine .inl ⟨rfl, ?_⟩
          have b0 : aa.tmps.getD 5 undef = .int .i64 3 := hB.off 5 (by kernel_rfl)
          clear hB hdep
          refine goes_value (v := .int .i64 3) ?_ hC rfl
          simp only [execOp, Act.eval, b0]
          go_simp
        refine AllOps.cons ?_ ?_
        · intro aa W hC hB hdep
          refine .inl ⟨rfl, ?_⟩
          obtain ⟨x0, (q0 : x0 = .int .i64 3), e0⟩ := hdep 6 25 (by kernel_rfl)
          subst q0
          obtain ⟨x1, (q1 : x1 = .int .i64 3), e1⟩ := hdep 7 26 (by kernel_rfl)
          subst q1
          clear hB hdep
          refine goes_value (v := .bool true) ?_ hC rfl
          simp only [execOp, Act.eval, e0, e1]
          go_simp
        refine AllOps.cons ?_ ?_
        · intro aa W hC hB hdep
          refine .inl ⟨rfl, ?_⟩
          obtain ⟨x0, (q0 : x0 = .bool true), e0⟩ := hdep 8 27 (by kernel_rfl)
          subst q0
          clear hB hdep
          refine goes_value (v := .bool true) ?_ hC rfl
          simp only [execOp, Act.eval, e0]
          go_simp
        refine AllOps.cons ?_ ?_
        · intro aa W hC hB hdep
          obtain ⟨xg, (qg : xg = .bool true), eg⟩ := hdep 9 28 (by kernel_rfl)
          subst qg
          refine .inl ⟨(wanted_is (g := 9) (t := 28) (b := true) (c := true) rfl rfl (by rw [hB.size]; exact Nat.le_of_ble_eq_true rfl) eg).trans rfl, ?_⟩
          have b0 : aa.tmps.getD 0 undef = .pointer (some ⟨lb, 0, none⟩) := hB.off 0 (by kernel_rfl)
          clear hB hdep
          refine goes_value (v := .pointer (some ⟨lb, 0, none⟩)) ?_ hC rfl
          simp only [execOp, Act.eval, b0]
          go_simp
        refine AllOps.cons ?_ ?_
        · intro aa W hC hB hdep
          obtain ⟨xg, (qg : xg = .bool true), eg⟩ := hdep 9 28 (by kernel_rfl)
          subst qg
          refine .inl ⟨(wanted_is (g := 9) (t := 28) (b := true) (c := true) rfl rfl (by rw [hB.size]; exact Nat.le_of_ble_eq_true rfl) eg).trans rfl, ?_⟩
          obtain ⟨x0, (q0 : x0 = .pointer (some ⟨lb, 0, none⟩)), e0⟩ := hdep 10 29 (by kernel_rfl)
          subst q0
          clear hB hdep
          refine goes_value (v := .pointer (some ⟨lb, 0, none⟩)) ?_ hC rfl
          simp only [execOp, Act.eval, e0]
          go_simp
        refine AllOps.cons ?_ ?_
        · intro aa W hC hB hdep
          obtain ⟨xg, (qg : xg = .bool true), eg⟩ := hdep 9 28 (by kernel_rfl)
          subst qg
          refine .inl ⟨(wanted_is (g := 9) (t := 28) (b := true) (c := true) rfl rfl (by rw [hB.size]; exact Nat.le_of_ble_eq_true rfl) eg).trans rfl, ?_⟩
          obtain ⟨x0, (q0 : x0 = .pointer (some ⟨lb, 0, none⟩)), e0⟩ := hdep 11 30 (by kernel_rfl)
          subst q0
          clear hB hdep
          refine goes_value (v := .pointer (some ⟨lb, 0, none⟩)) ?_ hC rfl
          simp only [execOp, Act.eval, e0]
          go_simp
        refine AllOps.cons ?_ ?_
        · intro aa W hC hB hdep
          obtain ⟨xg, (qg : xg = .bool true), eg⟩ := hdep 9 28 (by kernel_rfl)
          subst qg
          refine .inl ⟨(wanted_is (g := 9) (t := 28) (b := true) (c := true) rfl rfl (by rw [hB.size]; exact Nat.le_of_ble_eq_true rfl) eg).trans rfl, ?_⟩
          obtain ⟨x0, (q0 : x0 = .pointer (some ⟨lb, 0, none⟩)), e0⟩ := hdep 12 31 (by kernel_rfl)
          subst q0
          obtain ⟨c0, p0, p1, p2, p3⟩ := HXC.out W hC
          clear hB hdep
          refine goes_value (v := .pointer (some ⟨g, 0, none⟩)) ?_ hC rfl
          simp only [execOp, Act.eval, e0]
          go_simp
        refine AllOps.cons ?_ ?_
        · intro aa W hC hB hdep
          obtain ⟨xg, (qg : xg = .bool true), eg⟩ := hdep 9 28 (by kernel_rfl)
          subst qg
          refine .inl ⟨(wanted_is (g := 9) (t := 28) (b := true) (c := true) rfl rfl (by rw [hB.size]; exact Nat.le_of_ble_eq_true rfl) eg).trans rfl, ?_⟩
          have b0 : aa.tmps.getD 3 undef = .pointer (some ⟨w.heap.size, 0, none⟩) := hB.off 3 (by kernel_rfl)
          clear hB hdep
          refine goes_value (v := .pointer (some ⟨w.heap.size, 0, none⟩)) ?_ hC rfl
          simp only [execOp, Act.eval, b0]
          go_simp
        refine AllOps.cons ?_ ?_
        · intro aa W hC hB hdep
          obtain ⟨xg, (qg : xg = .bool true), eg⟩ := hdep 9 28 (by kernel_rfl)
          subst qg
          refine .inl ⟨(wanted_is (g := 9) (t := 28) (b := true) (c := true) rfl rfl (by rw [hB.size]; exact Nat.le_of_ble_eq_true rfl) eg).trans rfl, ?_⟩
          obtain ⟨x0, (q0 : x0 = .pointer (some ⟨w.heap.size, 0, none⟩)), e0⟩ := hdep 14 33 (by kernel_rfl)
          subst q0
          obtain ⟨c0, p0, p1, p2, p3⟩ := HXC.out W hC
          clear hB hdep
          refine goes_value (v := .agg #[.int .i64 a.1, .int .i64 a.2]) ?_ hC rfl
          simp only [execOp, Act.eval, e0]
          go_simp
        refine AllOps.cons ?_ ?_
        · intro aa W hC hB hdep
          obtain ⟨xg, (qg : xg = .bool true), eg⟩ := hdep 9 28 (by kernel_rfl)
          subst qg
          refine .inl ⟨(wanted_is (g := 9) (t := 28) (b := true) (c := true) rfl rfl (by rw [hB.size]; exact Nat.le_of_ble_eq_true rfl) eg).trans rfl, ?_⟩
          obtain ⟨x0, (q0 : x0 = .pointer (some ⟨g, 0, none⟩)), e0⟩ := hdep 13 32 (by kernel_rfl)
          subst q0
          obtain ⟨x1, (q1 : x1 = .agg #[.int .i64 a.1, .int .i64 a.2]), e1⟩ := hdep 15 34 (by kernel_rfl)
          subst q1
          clear hB hdep
          refine goes_call (f := 27) (args := #[.pointer (some ⟨g, 0, none⟩), .agg #[.int .i64 a.1, .int .i64 a.2]]) ?_ ?_
          · simp only [execOp]
            go_simp
          · exact (HLA.out W (HS.out.below (HB2.out.trans (hC.mono HB2.out.size)))).mono fun e w7 ⟨he, hb⟩ => ⟨_, he, hC.trans (hb.mono hC.size), hb, rfl⟩
        refine AllOps.cons ?_ ?_
        · intro aa W hC hB hdep
          obtain ⟨xg, (qg : xg = .bool true), eg⟩ := hdep 9 28 (by kernel_rfl)
          subst qg
          refine .inl ⟨(wanted_is (g := 9) (t := 28) (b := true) (c := true) rfl rfl (by rw [hB.size]; exact Nat.le_of_ble_eq_true rfl) eg).trans rfl, ?_⟩
          have b0 : aa.tmps.getD 0 undef = .pointer (some ⟨lb, 0, none⟩) := hB.off 0 (by kernel_rfl)
          clear hB hdep
          refine goes_value (v := .pointer (some ⟨lb, 0, none⟩)) ?_ hC rfl
          simp only [execOp, Act.eval, b0]
          go_simp
        refine AllOps.cons ?_ ?_
        · intro aa W hC hB hdep
          obtain ⟨xg, (qg : xg = .bool true), eg⟩ := hdep 9 28 (by kernel_rfl)
          subst qg
          refine .inl ⟨(wanted_is (g := 9) (t := 28) (b := true) (c := true) rfl rfl (by rw [hB.size]; exact Nat.le_of_ble_eq_true rfl) eg).trans rfl, ?_⟩
          obtain ⟨x0, (q0 : x0 = .pointer (some ⟨lb, 0, none⟩)), e0⟩ := hdep 17 36 (by kernel_rfl)
          subst q0
          clear hB hdep
          refine goes_value (v := .pointer (some ⟨lb, 0, none⟩)) ?_ hC rfl
          simp only [execOp, Act.eval, e0]
          go_simp
        refine AllOps.cons ?_ ?_
        · intro aa W hC hB hdep
          obtain ⟨xg, (qg : xg = .bool true), eg⟩ := hdep 9 28 (by kernel_rfl)
          subst qg
          refine .inl ⟨(wanted_is (g := 9) (t := 28) (b := true) (c := true) rfl rfl (by rw [hB.size]; exact Nat.le_of_ble_eq_true rfl) eg).trans rfl, ?_⟩
          obtain ⟨x0, (q0 : x0 = .pointer (some ⟨lb, 0, none⟩)), e0⟩ := hdep 18 37 (by kernel_rfl)
          subst q0
          clear hB hdep
          refine goes_value (v := .pointer (some ⟨lb, 0, none⟩)) ?_ hC rfl
          simp only [execOp, Act.eval, e0]
          go_simp
        refine AllOps.cons ?_ ?_
        · intro aa W hC hB hdep
          obtain ⟨xg, (qg : xg = .bool true), eg⟩ := hdep 9 28 (by kernel_rfl)
          subst qg
          refine .inl ⟨(wanted_is (g := 9) (t := 28) (b := true) (c := true) rfl rfl (by rw [hB.size]; exact Nat.le_of_ble_eq_true rfl) eg).trans rfl, ?_⟩
          obtain ⟨x0, (q0 : x0 = .pointer (some ⟨lb, 0, none⟩)), e0⟩ := hdep 19 38 (by kernel_rfl)
          subst q0
          obtain ⟨c0, p0, p1, p2, p3⟩ := HXC.out W hC
          clear hB hdep
          refine goes_value (v := .pointer (some ⟨g, 0, none⟩)) ?_ hC rfl
          simp only [execOp, Act.eval, e0]
          go_simp
        refine AllOps.cons ?_ ?_
        · intro aa W hC hB hdep
          obtain ⟨xg, (qg : xg = .bool true), eg⟩ := hdep 9 28 (by kernel_rfl)
          subst qg
          refine .inl ⟨(wanted_is (g := 9) (t := 28) (b := true) (c := true) rfl rfl (by rw [hB.size]; exact Nat.le_of_ble_eq_true rfl) eg).trans rfl, ?_⟩
          have b0 : aa.tmps.getD 3 undef = .pointer (some ⟨w.heap.size, 0, none⟩) := hB.off 3 (by kernel_rfl)
          clear hB hdep
          refine goes_value (v := .pointer (some ⟨w.heap.size, 2, none⟩)) ?_ hC rfl
          simp only [execOp, Act.eval, b0]
          go_simp
        refine AllOps.cons ?_ ?_
        · intro aa W hC hB hdep
          obtain ⟨xg, (qg : xg = .bool true), eg⟩ := hdep 9 28 (by kernel_rfl)
          subst qg
          refine .inl ⟨(wanted_is (g := 9) (t := 28) (b := true) (c := true) rfl rfl (by rw [hB.size]; exact Nat.le_of_ble_eq_true rfl) eg).trans rfl, ?_⟩
          obtain ⟨x0, (q0 : x0 = .pointer (some ⟨w.heap.size, 2, none⟩)), e0⟩ := hdep 21 40 (by kernel_rfl)
          subst q0
          obtain ⟨c0, p0, p1, p2, p3⟩ := HXC.out W hC
          clear hB hdep
          refine goes_value (v := .agg #[.int .i64 b.1, .int .i64 b.2]) ?_ hC rfl
          simp only [execOp, Act.eval, e0]
          go_simp
        refine AllOps.cons ?_ ?_
        · intro aa W hC hB hdep
          obtain ⟨xg, (qg : xg = .bool true), eg⟩ := hdep 9 28 (by kernel_rfl)
          subst qg
          refine .inl ⟨(wanted_is (g := 9) (t := 28) (b := true) (c := true) rfl rfl (by rw [hB.size]; exact Nat.le_of_ble_eq_true rfl) eg).trans rfl, ?_⟩
          obtain ⟨x0, (q0 : x0 = .pointer (some ⟨g, 0, none⟩)), e0⟩ := hdep 20 39 (by kernel_rfl)
          subst q0
          obtain ⟨x1, (q1 : x1 = .agg #[.int .i64 b.1, .int .i64 b.2]), e1⟩ := hdep 22 41 (by kernel_rfl)
          subst q1
          clear hB hdep
          refine goes_call (f := 27) (args := #[.pointer (some ⟨g, 0, none⟩), .agg #[.int .i64 b.1, .int .i64 b.2]]) ?_ ?_
          · simp only [execOp]
            go_simp
          · exact (HNB.out W (HS.out.below (HB2.out.trans (hC.mono HB2.out.size)))).mono fun e w7 ⟨he, hb⟩ => ⟨_, he, hC.trans (hb.mono hC.size), hb, rfl⟩
        refine AllOps.cons ?_ ?_
        · intro aa W hC hB hdep
          obtain ⟨xg, (qg : xg = .bool true), eg⟩ := hdep 9 28 (by kernel_rfl)
          subst qg
          refine .inl ⟨(wanted_is (g := 9) (t := 28) (b := true) (c := true) rfl rfl (by rw [hB.size]; exact Nat.le_of_ble_eq_true rfl) eg).trans rfl, ?_⟩
          obtain ⟨x0, (q0 : x0 = .int .i64 ((la : Nat) : Int)), e0⟩ := hdep 16 35 (by kernel_rfl)
          subst q0
          obtain ⟨x1, (q1 : x1 = .int .i64 ((nb : Nat) : Int)), e1⟩ := hdep 23 42 (by kernel_rfl)
          subst q1
          clear hB hdep
          refine goes_value (v := .bool (((la : Nat) : Int) == ((nb : Nat) : Int))) ?_ hC rfl
          simp only [execOp, Act.eval, e0, e1]
          go_simp
        refine AllOps.cons ?_ ?_
        · intro aa W hC hB hdep
          refine .inl ⟨rfl, ?_⟩
          obtain ⟨x0, (q0 : x0 = .bool true), e0⟩ := hdep 9 28 (by kernel_rfl)
          subst q0
          obtain ⟨x1, (q1 : x1 = .bool (((la : Nat) : Int) == ((nb : Nat) : Int))), e1⟩ := hdep 24 43 (by kernel_rfl)
          subst q1
          clear hB hdep
          refine goes_value (v := .bool (((la : Nat) : Int) == ((nb : Nat) : Int))) ?_ hC rfl
          simp only [execOp, Act.eval, e0, e1]
          go_simp
        refine AllOps.cons ?_ ?_
        · intro aa W hC hB hdep
          refine .inl ⟨rfl, ?_⟩
          obtain ⟨x0, (q0 : x0 = .bool (((la : Nat) : Int) == ((nb : Nat) : Int))), e0⟩ := hdep 25 44 (by kernel_rfl)
          subst q0
          clear hB hdep
          refine goes_value (v := .bool (((la : Nat) : Int) == ((nb : Nat) : Int))) ?_ hC rfl
          simp only [execOp, Act.eval, e0]
          go_simp
        exact trivial
      · intro aa w8 hC hB hall
        have hv : ∀ p ∈ [((19 : Nat), (.pointer (some ⟨lb, 0, none⟩) : Value)), ((20 : Nat), (.pointer (some ⟨lb, 0, none⟩) : Value)), ((21 : Nat), (.pointer (some ⟨lb, 0, none⟩) : Value)), ((22 : Nat), (.pointer (some ⟨g, 0, none⟩) : Value)), ((23 : Nat), (.pointer (some ⟨w.heap.size, 2, none⟩) : Value)), ((24 : Nat), (.agg #[.int .i64 b.1, .int .i64 b.2] : Value)), ((25 : Nat), (.int .i64 3 : Value)), ((26 : Nat), (.int .i64 3 : Value)), ((27 : Nat), (.bool true : Value)), ((28 : Nat), (.bool true : Value)), ((29 : Nat), (.pointer (some ⟨lb, 0, none⟩) : Value)), ((30 : Nat), (.pointer (some ⟨lb, 0, none⟩) : Value)), ((31 : Nat), (.pointer (some ⟨lb, 0, none⟩) : Value)), ((32 : Nat), (.pointer (some ⟨g, 0, none⟩) : Value)), ((33 : Nat), (.pointer (some ⟨w.heap.size, 0, none⟩) : Value)), ((34 : Nat), (.agg #[.int .i64 a.1, .int .i64 a.2] : Value)), ((35 : Nat), (.int .i64 ((la : Nat) : Int) : Value)), ((36 : Nat), (.pointer (some ⟨lb, 0, none⟩) : Value)), ((37 : Nat), (.pointer (some ⟨lb, 0, none⟩) : Value)), ((38 : Nat), (.pointer (some ⟨lb, 0, none⟩) : Value)), ((39 : Nat), (.pointer (some ⟨g, 0, none⟩) : Value)), ((40 : Nat), (.pointer (some ⟨w.heap.size, 2, none⟩) : Value)), ((41 : Nat), (.agg #[.int .i64 b.1, .int .i64 b.2] : Value)), ((42 : Nat), (.int .i64 ((nb : Nat) : Int) : Value)), ((43 : Nat), (.bool (((la : Nat) : Int) == ((nb : Nat) : Int)) : Value)), ((44 : Nat), (.bool (((la : Nat) : Int) == ((nb : Nat) : Int)) : Value)), ((4 : Nat), (.bool (((la : Nat) : Int) == ((nb : Nat) : Int)) : Value))], aa.tmps.getD p.1 undef = p.2 := by
          obtain ⟨_, (k0 : _ = _), e0⟩ := hall 0 _ rfl
          obtain ⟨_, (k1 : _ = _), e1⟩ := hall 1 _ rfl
          obtain ⟨_, (k2 : _ = _), e2⟩ := hall 2 _ rfl
          obtain ⟨_, (k3 : _ = _), e3⟩ := hall 3 _ rfl
          obtain ⟨_, (k4 : _ = _), e4⟩ := hall 4 _ rfl
          obtain ⟨_, (k5 : _ = _), e5⟩ := hall 5 _ rfl
          obtain ⟨_, (k6 : _ = _), e6⟩ := hall 6 _ rfl
          obtain ⟨_, (k7 : _ = _), e7⟩ := hall 7 _ rfl
          obtain ⟨_, (k8 : _ = _), e8⟩ := hall 8 _ rfl
          obtain ⟨_, (k9 : _ = _), e9⟩ := hall 9 _ rfl
          obtain ⟨_, (k10 : _ = _), e10⟩ := hall 10 _ rfl
          obtain ⟨_, (k11 : _ = _), e11⟩ := hall 11 _ rfl
          obtain ⟨_, (k12 : _ = _), e12⟩ := hall 12 _ rfl
          obtain ⟨_, (k13 : _ = _), e13⟩ := hall 13 _ rfl
          obtain ⟨_, (k14 : _ = _), e14⟩ := hall 14 _ rfl
          obtain ⟨_, (k15 : _ = _), e15⟩ := hall 15 _ rfl
          obtain ⟨_, (k16 : _ = _), e16⟩ := hall 16 _ rfl
          obtain ⟨_, (k17 : _ = _), e17⟩ := hall 17 _ rfl
          obtain ⟨_, (k18 : _ = _), e18⟩ := hall 18 _ rfl
          obtain ⟨_, (k19 : _ = _), e19⟩ := hall 19 _ rfl
          obtain ⟨_, (k20 : _ = _), e20⟩ := hall 20 _ rfl
          obtain ⟨_, (k21 : _ = _), e21⟩ := hall 21 _ rfl
          obtain ⟨_, (k22 : _ = _), e22⟩ := hall 22 _ rfl
          obtain ⟨_, (k23 : _ = _), e23⟩ := hall 23 _ rfl
          obtain ⟨_, (k24 : _ = _), e24⟩ := hall 24 _ rfl
          obtain ⟨_, (k25 : _ = _), e25⟩ := hall 25 _ rfl
          obtain ⟨_, (k26 : _ = _), e26⟩ := hall 26 _ rfl
          subst k0 k1 k2 k3 k4 k5 k6 k7 k8 k9 k10 k11 k12 k13 k14 k15 k16 k17 k18 k19 k20 k21 k22 k23 k24 k25 k26
          intro p hp
          simp only [List.mem_cons, List.not_mem_nil, or_false] at hp
          rcases hp with rfl | rfl | rfl | rfl | rfl | rfl | rfl | rfl | rfl | rfl | rfl | rfl | rfl | rfl | rfl | rfl | rfl | rfl | rfl | rfl | rfl | rfl | rfl | rfl | rfl | rfl | rfl
          · exact e0 _ rfl
          · exact e1 _ rfl
          · exact e2 _ rfl
          · exact e3 _ rfl
          · exact e4 _ rfl
          · exact e5 _ rfl
          · exact e6 _ rfl
          · exact e7 _ rfl
          · exact e8 _ rfl
          · exact e9 _ rfl
          · exact e10 _ rfl
          · exact e11 _ rfl
          · exact e12 _ rfl
          · exact e13 _ rfl
          · exact e14 _ rfl
          · exact e15 _ rfl
          · exact e16 _ rfl
          · exact e17 _ rfl
          · exact e18 _ rfl
          · exact e19 _ rfl
          · exact e20 _ rfl
          · exact e21 _ rfl
          · exact e22 _ rfl
          · exact e23 _ rfl
          · exact e24 _ rfl
          · exact e25 _ rfl
          · exact e26 _ rfl
        have hact := act_fold _ hB hv (by kernel_rfl)
        subst hact
        clear hv hall hB
        refine (‹∀ (a : Act) (w : World), Code.wp Try.prog _ _ a w → _›) _ w8 ?_
        simp only [List.foldl, List.setIfInBounds_toArray, List.set_cons_succ, List.set_cons_zero]
        go_wp2_with fail
        go_ret
        refine ⟨ret_bl ?_, HB2.out.trans (hC.mono HB2.out.size)⟩
        by_cases hln : la = nb
        · rw [compA_yes (by rw [← HEKA.out]; decide) (by rw [← HEKA.out]; decide) (by rw [← HEKA.out, ← HEKB.out]) (by rw [← HELA.out, ← HELB.out]; exact hln)]
          simp [hln]
        · rw [compA_len (by rw [← HELA.out, ← HELB.out]; exact hln), beq_eq_false_iff_ne]
          omega
    · have hkf : (kb == 3) = false := by rw [beq_eq_false_iff_ne]; exact hkk
      refine wp_region_slotsG (psi [isV (.pointer (some ⟨lb, 0, none⟩)), isV (.pointer (some ⟨lb, 0, none⟩)), isV (.pointer (some ⟨lb, 0, none⟩)), isV (.pointer (some ⟨g, 0, none⟩)), isV (.pointer (some ⟨w.heap.size, 2, none⟩)), isV (.agg #[.int .i64 b.1, .int .i64 b.2]), isV (.int .i64 kb), isV (.int .i64 3), isV (.bool false), isV (.bool false), isV (undef), isV (undef), isV (undef), isV (undef), isV (undef), isV (undef), isV (undef), isV (undef), isV (undef), isV (undef), isV (undef), isV (undef), isV (undef), isV (undef), isV (undef), isV (.bool false), isV (.bool false)]) (fun W => Below w2.heap.size w2 W) (by kernel_rfl) (Below.refl _ _).drew (psi_mono ?_) (by kernel_rfl) (by kernel_rfl) ?_ ?_
      · intro p hp
        simp only [List.mem_cons, List.not_mem_nil, or_false] at hp
        (repeat' rcases hp with rfl | hp) <;> first | exact isV_stays _ | (subst hp; exact isV_stays _)
      · refine AllOps.cons ?_ ?_
        · intro aa W hC hB hdep
          refine .inl ⟨rfl, ?_⟩
          have b0 : aa.tmps.getD 0 undef = .pointer (some ⟨lb, 0, none⟩) := hB.off 0 (by kernel_rfl)
          clear hB hdep
          refine goes_value (v := .pointer (some ⟨lb, 0, none⟩)) ?_ hC rfl
          simp only [execOp, Act.eval, b0]
          go_simp
        refine AllOps.cons ?_ ?_
        · intro aa W hC hB hdep
          refine .inl ⟨rfl, ?_⟩
          obtain ⟨x0, (q0 : x0 = .pointer (some ⟨lb, 0, none⟩)), e0⟩ := hdep 0 19 (by kernel_rfl)
          subst q0
          clear hB hdep
          refine goes_value (v := .pointer (some ⟨lb, 0, none⟩)) ?_ hC rfl
          simp only [execOp, Act.eval, e0]
          go_simp
        refine AllOps.cons ?_ ?_
        · intro aa W hC hB hdep
          refine .inl ⟨rfl, ?_⟩
          obtain ⟨x0, (q0 : x0 = .pointer (some ⟨lb, 0, none⟩)), e0⟩ := hdep 1 20 (by kernel_rfl)
          subst q0
          clear hB hdep
          refine goes_value (v := .pointer (some ⟨lb, 0, none⟩)) ?_ hC rfl
          simp only [execOp, Act.eval, e0]
          go_simp
        refine AllOps.cons ?_ ?_
        · intro aa W hC hB hdep
          refine .inl ⟨rfl, ?_⟩
          obtain ⟨x0, (q0 : x0 = .pointer (some ⟨lb, 0, none⟩)), e0⟩ := hdep 2 21 (by kernel_rfl)
          subst q0
          obtain ⟨c0, p0, p1, p2, p3⟩ := HXC.out W hC
          clear hB hdep
          refine goes_value (v := .pointer (some ⟨g, 0, none⟩)) ?_ hC rfl
          simp only [execOp, Act.eval, e0]
          go_simp
        refine AllOps.cons ?_ ?_
        · intro aa W hC hB hdep
          refine .inl ⟨rfl, ?_⟩
          have b0 : aa.tmps.getD 3 undef = .pointer (some ⟨w.heap.size, 0, none⟩) := hB.off 3 (by kernel_rfl)
          clear hB hdep
          refine goes_value (v := .pointer (some ⟨w.heap.size, 2, none⟩)) ?_ hC rfl
          simp only [execOp, Act.eval, b0]
          go_simp
        refine AllOps.cons ?_ ?_
        · intro aa W hC hB hdep
          refine .inl ⟨rfl, ?_⟩
          obtain ⟨x0, (q0 : x0 = .pointer (some ⟨w.heap.size, 2, none⟩)), e0⟩ := hdep 4 23 (by kernel_rfl)
          subst q0
          obtain ⟨c0, p0, p1, p2, p3⟩ := HXC.out W hC
          clear hB hdep
          refine goes_value (v := .agg #[.int .i64 b.1, .int .i64 b.2]) ?_ hC rfl
          simp only [execOp, Act.eval, e0]
          go_simp
        refine AllOps.cons ?_ ?_
        · intro aa W hC hB hdep
          refine .inl ⟨rfl, ?_⟩
          obtain ⟨x0, (q0 : x0 = .pointer (some ⟨g, 0, none⟩)), e0⟩ := hdep 3 22 (by kernel_rfl)
          subst q0
          obtain ⟨x1, (q1 : x1 = .agg #[.int .i64 b.1, .int .i64 b.2]), e1⟩ := hdep 5 24 (by kernel_rfl)
          subst q1
          clear hB hdep
          refine goes_call (f := 26) (args := #[.pointer (some ⟨g, 0, none⟩), .agg #[.int .i64 b.1, .int .i64 b.2]]) ?_ ?_
          · simp only [execOp]
            go_simp
          · exact (HKB.out W (HS.out.below (HB2.out.trans (hC.mono HB2.out.size)))).mono fun e w7 ⟨he, hb⟩ => ⟨_, he, hC.trans (hb.mono hC.size), hb, rfl⟩
        refine AllOps.cons ?_ ?_
        · intro aa W hC hB hdep
          refine .inl ⟨rfl, ?_⟩
          have b0 : aa.tmps.getD 5 undef = .int .i64 3 := hB.off 5 (by kernel_rfl)
          clear hB hdep
          refine goes_value (v := .int .i64 3) ?_ hC rfl
          simp only [execOp, Act.eval, b0]
          go_simp
        refine AllOps.cons ?_ ?_
        · intro aa W hC hB hdep
          refine .inl ⟨rfl, ?_⟩
          obtain ⟨x0, (q0 : x0 = .int .i64 kb), e0⟩ := hdep 6 25 (by kernel_rfl)
          subst q0
          obtain ⟨x1, (q1 : x1 = .int .i64 3), e1⟩ := hdep 7 26 (by kernel_rfl)
          subst q1
          clear hB hdep
          refine goes_value (v := .bool false) ?_ hC rfl
          simp only [execOp, Act.eval, e0, e1]
          go_simp
        refine AllOps.cons ?_ ?_
        · intro aa W hC hB hdep
          refine .inl ⟨rfl, ?_⟩
          obtain ⟨x0, (q0 : x0 = .bool false), e0⟩ := hdep 8 27 (by kernel_rfl)
          subst q0
          clear hB hdep
          refine goes_value (v := .bool false) ?_ hC rfl
          simp only [execOp, Act.eval, e0]
          go_simp
        refine AllOps.cons ?_ ?_
        · intro aa W hC hB hdep
          obtain ⟨xg, (qg : xg = .bool false), eg⟩ := hdep 9 28 (by kernel_rfl)
          subst qg
          exact .inr ⟨(wanted_is (g := 9) (t := 28) (b := true) (c := false) rfl rfl (by rw [hB.size]; exact Nat.le_of_ble_eq_true rfl) eg).trans rfl, rfl⟩
        refine AllOps.cons ?_ ?_
        · intro aa W hC hB hdep
          obtain ⟨xg, (qg : xg = .bool false), eg⟩ := hdep 9 28 (by kernel_rfl)
          subst qg
          exact .inr ⟨(wanted_is (g := 9) (t := 28) (b := true) (c := false) rfl rfl (by rw [hB.size]; exact Nat.le_of_ble_eq_true rfl) eg).trans rfl, rfl⟩
        refine AllOps.cons ?_ ?_
        · intro aa W hC hB hdep
          obtain ⟨xg, (qg : xg = .bool false), eg⟩ := hdep 9 28 (by kernel_rfl)
          subst qg
          exact .inr ⟨(wanted_is (g := 9) (t := 28) (b := true) (c := false) rfl rfl (by rw [hB.size]; exact Nat.le_of_ble_eq_true rfl) eg).trans rfl, rfl⟩
        refine AllOps.cons ?_ ?_
        · intro aa W hC hB hdep
          obtain ⟨xg, (qg : xg = .bool false), eg⟩ := hdep 9 28 (by kernel_rfl)
          subst qg
          exact .inr ⟨(wanted_is (g := 9) (t := 28) (b := true) (c := false) rfl rfl (by rw [hB.size]; exact Nat.le_of_ble_eq_true rfl) eg).trans rfl, rfl⟩
        refine AllOps.cons ?_ ?_
        · intro aa W hC hB hdep
          obtain ⟨xg, (qg : xg = .bool false), eg⟩ := hdep 9 28 (by kernel_rfl)
          subst qg
          exact .inr ⟨(wanted_is (g := 9) (t := 28) (b := true) (c := false) rfl rfl (by rw [hB.size]; exact Nat.le_of_ble_eq_true rfl) eg).trans rfl, rfl⟩
        refine AllOps.cons ?_ ?_
        · intro aa W hC hB hdep
          obtain ⟨xg, (qg : xg = .bool false), eg⟩ := hdep 9 28 (by kernel_rfl)
          subst qg
          exact .inr ⟨(wanted_is (g := 9) (t := 28) (b := true) (c := false) rfl rfl (by rw [hB.size]; exact Nat.le_of_ble_eq_true rfl) eg).trans rfl, rfl⟩
        refine AllOps.cons ?_ ?_
        · intro aa W hC hB hdep
          obtain ⟨xg, (qg : xg = .bool false), eg⟩ := hdep 9 28 (by kernel_rfl)
          subst qg
          exact .inr ⟨(wanted_is (g := 9) (t := 28) (b := true) (c := false) rfl rfl (by rw [hB.size]; exact Nat.le_of_ble_eq_true rfl) eg).trans rfl, rfl⟩
        refine AllOps.cons ?_ ?_
        · intro aa W hC hB hdep
          obtain ⟨xg, (qg : xg = .bool false), eg⟩ := hdep 9 28 (by kernel_rfl)
          subst qg
          exact .inr ⟨(wanted_is (g := 9) (t := 28) (b := true) (c := false) rfl rfl (by rw [hB.size]; exact Nat.le_of_ble_eq_true rfl) eg).trans rfl, rfl⟩
        refine AllOps.cons ?_ ?_
        · intro aa W hC hB hdep
          obtain ⟨xg, (qg : xg = .bool false), eg⟩ := hdep 9 28 (by kernel_rfl)
          subst qg
          exact .inr ⟨(wanted_is (g := 9) (t := 28) (b := true) (c := false) rfl rfl (by rw [hB.size]; exact Nat.le_of_ble_eq_true rfl) eg).trans rfl, rfl⟩
        refine AllOps.cons ?_ ?_
        · intro aa W hC hB hdep
          obtain ⟨xg, (qg : xg = .bool false), eg⟩ := hdep 9 28 (by kernel_rfl)
          subst qg
          exact .inr ⟨(wanted_is (g := 9) (t := 28) (b := true) (c := false) rfl rfl (by rw [hB.size]; exact Nat.le_of_ble_eq_true rfl) eg).trans rfl, rfl⟩
        refine AllOps.cons ?_ ?_
        · intro aa W hC hB hdep
          obtain ⟨xg, (qg : xg = .bool false), eg⟩ := hdep 9 28 (by kernel_rfl)
          subst qg
          exact .inr ⟨(wanted_is (g := 9) (t := 28) (b := true) (c := false) rfl rfl (by rw [hB.size]; exact Nat.le_of_ble_eq_true rfl) eg).trans rfl, rfl⟩
        refine AllOps.cons ?_ ?_
        · intro aa W hC hB hdep
          obtain ⟨xg, (qg : xg = .bool false), eg⟩ := hdep 9 28 (by kernel_rfl)
          subst qg
          exact .inr ⟨(wanted_is (g := 9) (t := 28) (b := true) (c := false) rfl rfl (by rw [hB.size]; exact Nat.le_of_ble_eq_true rfl) eg).trans rfl, rfl⟩
        refine AllOps.cons ?_ ?_
        · intro aa W hC hB hdep
          obtain ⟨xg, (qg : xg = .bool false), eg⟩ := hdep 9 28 (by kernel_rfl)
          subst qg
          exact .inr ⟨(wanted_is (g := 9) (t := 28) (b := true) (c := false) rfl rfl (by rw [hB.size]; exact Nat.le_of_ble_eq_true rfl) eg).trans rfl, rfl⟩
        refine AllOps.cons ?_ ?_
        · intro aa W hC hB hdep
          obtain ⟨xg, (qg : xg = .bool false), eg⟩ := hdep 9 28 (by kernel_rfl)
          subst qg
          exact .inr ⟨(wanted_is (g := 9) (t := 28) (b := true) (c := false) rfl rfl (by rw [hB.size]; exact Nat.le_of_ble_eq_true rfl) eg).trans rfl, rfl⟩
        refine AllOps.cons ?_ ?_
        · intro aa W hC hB hdep
          obtain ⟨xg, (qg : xg = .bool false), eg⟩ := hdep 9 28 (by kernel_rfl)
          subst qg
          exact .inr ⟨(wanted_is (g := 9) (t := 28) (b := true) (c := false) rfl rfl (by rw [hB.size]; exact Nat.le_of_ble_eq_true rfl) eg).trans rfl, rfl⟩
        refine AllOps.cons ?_ ?_
        · intro aa W hC hB hdep
          refine .inl ⟨rfl, ?_⟩
          obtain ⟨x0, (q0 : x0 = .bool false), e0⟩ := hdep 9 28 (by kernel_rfl)
          subst q0
          obtain ⟨x1, (q1 : x1 = undef), e1⟩ := hdep 24 43 (by kernel_rfl)
          subst q1
          clear hB hdep
          refine goes_value (v := .bool false) ?_ hC rfl
          simp only [execOp, Act.eval, e0, e1]
          go_simp
        refine AllOps.cons ?_ ?_
        · intro aa W hC hB hdep
          refine .inl ⟨rfl, ?_⟩
          obtain ⟨x0, (q0 : x0 = .bool false), e0⟩ := hdep 25 44 (by kernel_rfl)
          subst q0
          clear hB hdep
          refine goes_value (v := .bool false) ?_ hC rfl
          simp only [execOp, Act.eval, e0]
          go_simp
        exact trivial
      · intro aa w8 hC hB hall
        have hv : ∀ p ∈ [((19 : Nat), (.pointer (some ⟨lb, 0, none⟩) : Value)), ((20 : Nat), (.pointer (some ⟨lb, 0, none⟩) : Value)), ((21 : Nat), (.pointer (some ⟨lb, 0, none⟩) : Value)), ((22 : Nat), (.pointer (some ⟨g, 0, none⟩) : Value)), ((23 : Nat), (.pointer (some ⟨w.heap.size, 2, none⟩) : Value)), ((24 : Nat), (.agg #[.int .i64 b.1, .int .i64 b.2] : Value)), ((25 : Nat), (.int .i64 kb : Value)), ((26 : Nat), (.int .i64 3 : Value)), ((27 : Nat), (.bool false : Value)), ((28 : Nat), (.bool false : Value)), ((29 : Nat), (undef : Value)), ((30 : Nat), (undef : Value)), ((31 : Nat), (undef : Value)), ((32 : Nat), (undef : Value)), ((33 : Nat), (undef : Value)), ((34 : Nat), (undef : Value)), ((35 : Nat), (undef : Value)), ((36 : Nat), (undef : Value)), ((37 : Nat), (undef : Value)), ((38 : Nat), (undef : Value)), ((39 : Nat), (undef : Value)), ((40 : Nat), (undef : Value)), ((41 : Nat), (undef : Value)), ((42 : Nat), (undef : Value)), ((43 : Nat), (undef : Value)), ((44 : Nat), (.bool false : Value)), ((4 : Nat), (.bool false : Value))], aa.tmps.getD p.1 undef = p.2 := by
          obtain ⟨_, (k0 : _ = _), e0⟩ := hall 0 _ rfl
          obtain ⟨_, (k1 : _ = _), e1⟩ := hall 1 _ rfl
          obtain ⟨_, (k2 : _ = _), e2⟩ := hall 2 _ rfl
          obtain ⟨_, (k3 : _ = _), e3⟩ := hall 3 _ rfl
          obtain ⟨_, (k4 : _ = _), e4⟩ := hall 4 _ rfl
          obtain ⟨_, (k5 : _ = _), e5⟩ := hall 5 _ rfl
          obtain ⟨_, (k6 : _ = _), e6⟩ := hall 6 _ rfl
          obtain ⟨_, (k7 : _ = _), e7⟩ := hall 7 _ rfl
          obtain ⟨_, (k8 : _ = _), e8⟩ := hall 8 _ rfl
          obtain ⟨_, (k9 : _ = _), e9⟩ := hall 9 _ rfl
          obtain ⟨_, (k10 : _ = _), e10⟩ := hall 10 _ rfl
          obtain ⟨_, (k11 : _ = _), e11⟩ := hall 11 _ rfl
          obtain ⟨_, (k12 : _ = _), e12⟩ := hall 12 _ rfl
          obtain ⟨_, (k13 : _ = _), e13⟩ := hall 13 _ rfl
          obtain ⟨_, (k14 : _ = _), e14⟩ := hall 14 _ rfl
          obtain ⟨_, (k15 : _ = _), e15⟩ := hall 15 _ rfl
          obtain ⟨_, (k16 : _ = _), e16⟩ := hall 16 _ rfl
          obtain ⟨_, (k17 : _ = _), e17⟩ := hall 17 _ rfl
          obtain ⟨_, (k18 : _ = _), e18⟩ := hall 18 _ rfl
          obtain ⟨_, (k19 : _ = _), e19⟩ := hall 19 _ rfl
          obtain ⟨_, (k20 : _ = _), e20⟩ := hall 20 _ rfl
          obtain ⟨_, (k21 : _ = _), e21⟩ := hall 21 _ rfl
          obtain ⟨_, (k22 : _ = _), e22⟩ := hall 22 _ rfl
          obtain ⟨_, (k23 : _ = _), e23⟩ := hall 23 _ rfl
          obtain ⟨_, (k24 : _ = _), e24⟩ := hall 24 _ rfl
          obtain ⟨_, (k25 : _ = _), e25⟩ := hall 25 _ rfl
          obtain ⟨_, (k26 : _ = _), e26⟩ := hall 26 _ rfl
          subst k0 k1 k2 k3 k4 k5 k6 k7 k8 k9 k10 k11 k12 k13 k14 k15 k16 k17 k18 k19 k20 k21 k22 k23 k24 k25 k26
          intro p hp
          simp only [List.mem_cons, List.not_mem_nil, or_false] at hp
          rcases hp with rfl | rfl | rfl | rfl | rfl | rfl | rfl | rfl | rfl | rfl | rfl | rfl | rfl | rfl | rfl | rfl | rfl | rfl | rfl | rfl | rfl | rfl | rfl | rfl | rfl | rfl | rfl
          · exact e0 _ rfl
          · exact e1 _ rfl
          · exact e2 _ rfl
          · exact e3 _ rfl
          · exact e4 _ rfl
          · exact e5 _ rfl
          · exact e6 _ rfl
          · exact e7 _ rfl
          · exact e8 _ rfl
          · exact e9 _ rfl
          · exact e10 _ rfl
          · exact e11 _ rfl
          · exact e12 _ rfl
          · exact e13 _ rfl
          · exact e14 _ rfl
          · exact e15 _ rfl
          · exact e16 _ rfl
          · exact e17 _ rfl
          · exact e18 _ rfl
          · exact e19 _ rfl
          · exact e20 _ rfl
          · exact e21 _ rfl
          · exact e22 _ rfl
          · exact e23 _ rfl
          · exact e24 _ rfl
          · exact e25 _ rfl
          · exact e26 _ rfl
        have hact := act_fold _ hB hv (by kernel_rfl)
        subst hact
        clear hv hall hB
        refine (‹∀ (a : Act) (w : World), Code.wp Try.prog _ _ a w → _›) _ w8 ?_
        simp only [List.foldl, List.setIfInBounds_toArray, List.set_cons_succ, List.set_cons_zero]
        go_wp2_with fail
        go_ret
        exact ⟨ret_bl (compA_kind (by rw [← HEKA.out, ← HEKB.out]; exact hkk)).symm, HB2.out.trans (hC.mono HB2.out.size)⟩

set_option maxRecDepth 100000 in
set_option maxHeartbeats 4000000 in
theorem comparable_4 (g lb : Nat) (R : Nat → Nat) (s : St) (a b : Int × Int) (w : World) (h : StW w g R s) (hlb : lb < w.heap.size) (hc : w.cell? ⟨lb, 0, none⟩ = some (.pointer (some ⟨g, 0, none⟩))) (hkn : s.kind a = 4) :
    Calls Try.prog 84 #[.pointer (some ⟨lb, 0, none⟩), .agg #[.int .i64 a.1, .int .i64 a.2, .int .i64 b.1, .int .i64 b.2]] w fun e w' => e = .returned (.bool (s.compA a b)) ∧ Below w.heap.size w w' := by
  have HS := Lib.hid h
  have HB1 := Lib.hid (below1 w (.cells #[.int .i64 a.1, .int .i64 a.2, .int .i64 b.1, .int .i64 b.2] 126))
  have n0 := box1 w #[.int .i64 a.1, .int .i64 a.2, .int .i64 b.1, .int .i64 b.2] 126
  have HN0 := Lib.hid n0
  obtain ⟨p0, p1, p2, p3⟩ := row4 n0
  have c0 := (HB1.out.cell (p := ⟨lb, 0, none⟩) hlb).trans hc
  have HC := Lib.hid hc
  have HLB := Lib.hid hlb
  obtain ⟨ka, hka⟩ : ∃ ka, ka = s.kind a := ⟨_, rfl⟩
  obtain ⟨kb, hkb⟩ : ∃ kb, kb = s.kind b := ⟨_, rfl⟩
  obtain ⟨la, hla⟩ : ∃ la, la = s.len a := ⟨_, rfl⟩
  obtain ⟨nb, hnb⟩ : ∃ nb, nb = s.len b := ⟨_, rfl⟩
  have HKA : Hid (∀ W, StW W g R s → Calls Try.prog 26 #[.pointer (some ⟨g, 0, none⟩), .agg #[.int .i64 a.1, .int .i64 a.2]] W fun e w' => e = .returned (.int .i64 ka) ∧ Below W.heap.size W w') := Lib.hid fun W hW => by rw [hka]; exact stkind_any g R s a W hW
  have HKB : Hid (∀ W, StW W g R s → Calls Try.prog 26 #[.pointer (some ⟨g, 0, none⟩), .agg #[.int .i64 b.1, .int .i64 b.2]] W fun e w' => e = .returned (.int .i64 kb) ∧ Below W.heap.size W w') := Lib.hid fun W hW => by rw [hkb]; exact stkind_any g R s b W hW
  have HLA : Hid (∀ W, StW W g R s → Calls Try.prog 27 #[.pointer (some ⟨g, 0, none⟩), .agg #[.int .i64 a.1, .int .i64 a.2]] W fun e w' => e = .returned (.int .i64 ((la : Nat) : Int)) ∧ Below W.heap.size W w') := Lib.hid fun W hW => by rw [hla]; exact stlen_any g R s a W hW
  have HNB : Hid (∀ W, StW W g R s → Calls Try.prog 27 #[.pointer (some ⟨g, 0, none⟩), .agg #[.int .i64 b.1, .int .i64 b.2]] W fun e w' => e = .returned (.int .i64 ((nb : Nat) : Int)) ∧ Below W.heap.size W w') := Lib.hid fun W hW => by rw [hnb]; exact stlen_any g R s b W hW
  have HEKA := Lib.hid hka
  have HEKB := Lib.hid hkb
  have HELA := Lib.hid hla
  have HELB := Lib.hid hnb
  clear h n0 hc hka hkb hla hnb hlb
  go_enter Try.func84, Try.ntmps84
  go_upto_region 1 with fail
  generalize w.alloc (.cells #[.int .i64 a.1, .int .i64 a.2, .int .i64 b.1, .int .i64 b.2] 126) = w1 at *
  clear p0 p1 p2 p3 c0
  have HX1 : Hid (∀ W, Below w1.heap.size w1 W → W.cell? ⟨lb, 0, none⟩ = some (.pointer (some ⟨g, 0, none⟩)) ∧ W.cell? ⟨w.heap.size, 0, none⟩ = some (.int .i64 a.1) ∧ W.cell? ⟨w.heap.size, 1, none⟩ = some (.int .i64 a.2) ∧ W.cell? ⟨w.heap.size, 2, none⟩ = some (.int .i64 b.1) ∧ W.cell? ⟨w.heap.size, 3, none⟩ = some (.int .i64 b.2)) := Lib.hid fun W hW => ⟨(hW.cell (p := ⟨lb, 0, none⟩) (Nat.lt_of_lt_of_le HLB.out HB1.out.size)).trans ((HB1.out.cell (p := ⟨lb, 0, none⟩) HLB.out).trans HC.out), row4 ((hW.block _ (Array.getElem?_eq_some_iff.1 HN0.out).1).trans HN0.out)⟩
  refine wp_region_slotsG (psi [isV (.pointer (some ⟨lb, 0, none⟩)), isV (.pointer (some ⟨lb, 0, none⟩)), isV (.pointer (some ⟨lb, 0, none⟩)), isV (.pointer (some ⟨g, 0, none⟩)), isV (.pointer (some ⟨w.heap.size, 0, none⟩)), isV (.agg #[.int .i64 a.1, .int .i64 a.2]), isV (.int .i64 ka), isV (.int .i64 ka)]) (fun W => Below w1.heap.size w1 W) (by kernel_rfl) (Below.refl _ _).drew (psi_mono ?_) (by kernel_rfl) (by kernel_rfl) ?_ ?_
  · intro p hp
    simp only [List.mem_cons, List.not_mem_nil, or_false] at hp
    (repeat' rcases hp with rfl | hp) <;> first | exact isV_stays _ | (subst hp; exact isV_stays _)
  · refine AllOps.cons ?_ ?_
    · intro aa W hC hB hdep
      refine .inl ⟨rfl, ?_⟩
      have b0 : aa.tmps.getD 0 undef = .pointer (some ⟨lb, 0, none⟩) := hB.off 0 (by kernel_rfl)
      clear hB hdep
      refine goes_value (v := .pointer (some ⟨lb, 0, none⟩)) ?_ hC rfl
      simp only [execOp, Act.eval, b0]
      go_simp
    refine AllOps.cons ?_ ?_
    · intro aa W hC hB hdep
      refine .inl ⟨rfl, ?_⟩
      obtain ⟨x0, (q0 : x0 = .pointer (some ⟨lb, 0, none⟩)), e0⟩ := hdep 0 6 (by kernel_rfl)
      subst q0
      clear hB hdep
      refine goes_value (v := .pointer (some ⟨lb, 0, none⟩)) ?_ hC rfl
      simp only [execOp, Act.eval, e0]
      go_simp
    refine AllOps.cons ?_ ?_
    · intro aa W hC hB hdep
      refine .inl ⟨rfl, ?_⟩
      obtain ⟨x0, (q0 : x0 = .pointer (some ⟨lb, 0, none⟩)), e0⟩ := hdep 1 7 (by kernel_rfl)
      subst q0
      clear hB hdep
      refine goes_value (v := .pointer (some ⟨lb, 0, none⟩)) ?_ hC rfl
      simp only [execOp, Act.eval, e0]
      go_simp
    refine AllOps.cons ?_ ?_
    · intro aa W hC hB hdep
      refine .inl ⟨rfl, ?_⟩
      obtain ⟨x0, (q0 : x0 = .pointer (some ⟨lb, 0, none⟩)), e0⟩ := hdep 2 8 (by kernel_rfl)
      subst q0
      obtain ⟨c0, p0, p1, p2, p3⟩ := HX1.out W hC
      clear hB hdep
      refine goes_value (v := .pointer (some ⟨g, 0, none⟩)) ?_ hC rfl
      simp only [execOp, Act.eval, e0]
      go_simp
    refine AllOps.cons ?_ ?_
    · intro aa W hC hB hdep
      refine .inl ⟨rfl, ?_⟩
      have b0 : aa.tmps.getD 3 undef = .pointer (some ⟨w.heap.size, 0, none⟩) := hB.off 3 (by kernel_rfl)
      clear hB hdep
      refine goes_value (v := .pointer (some ⟨w.heap.size, 0, none⟩)) ?_ hC rfl
      simp only [execOp, Act.eval, b0]
      go_simp
    refine AllOps.cons ?_ ?_
    · intro aa W hC hB hdep
      refine .inl ⟨rfl, ?_⟩
      obtain ⟨x0, (q0 : x0 = .pointer (some ⟨w.heap.size, 0, none⟩)), e0⟩ := hdep 4 10 (by kernel_rfl)
      subst q0
      obtain ⟨c0, p0, p1, p2, p3⟩ := HX1.out W hC
      clear hB hdep
      refine goes_value (v := .agg #[.int .i64 a.1, .int .i64 a.2]) ?_ hC rfl
      simp only [execOp, Act.eval, e0]
      go_simp
    refine AllOps.cons ?_ ?_
    · intro aa W hC hB hdep
      refine .inl ⟨rfl, ?_⟩
      obtain ⟨x0, (q0 : x0 = .pointer (some ⟨g, 0, none⟩)), e0⟩ := hdep 3 9 (by kernel_rfl)
      subst q0
      obtain ⟨x1, (q1 : x1 = .agg #[.int .i64 a.1, .int .i64 a.2]), e1⟩ := hdep 5 11 (by kernel_rfl)
      subst q1
      clear hB hdep
      refine goes_call (f := 26) (args := #[.pointer (some ⟨g, 0, none⟩), .agg #[.int .i64 a.1, .int .i64 a.2]]) ?_ ?_
      · simp only [execOp]
        go_simp
      · exact (HKA.out W (HS.out.below (HB1.out.trans (hC.mono HB1.out.size)))).mono fun e w7 ⟨he, hb⟩ => ⟨_, he, hC.trans (hb.mono hC.size), hb, rfl⟩
    refine AllOps.cons ?_ ?_
    · intro aa W hC hB hdep
      refine .inl ⟨rfl, ?_⟩
      obtain ⟨x0, (q0 : x0 = .int .i64 ka), e0⟩ := hdep 6 12 (by kernel_rfl)
      subst q0
      clear hB hdep
      refine goes_value (v := .int .i64 ka) ?_ hC rfl
      simp only [execOp, Act.eval, e0]
      go_simp
    exact trivial
  · intro aa w8 hC hB hall
    have hv : ∀ p ∈ [((6 : Nat), (.pointer (some ⟨lb, 0, none⟩) : Value)), ((7 : Nat), (.pointer (some ⟨lb, 0, none⟩) : Value)), ((8 : Nat), (.pointer (some ⟨lb, 0, none⟩) : Value)), ((9 : Nat), (.pointer (some ⟨g, 0, none⟩) : Value)), ((10 : Nat), (.pointer (some ⟨w.heap.size, 0, none⟩) : Value)), ((11 : Nat), (.agg #[.int .i64 a.1, .int .i64 a.2] : Value)), ((12 : Nat), (.int .i64 ka : Value)), ((5 : Nat), (.int .i64 ka : Value))], aa.tmps.getD p.1 undef = p.2 := by
      obtain ⟨_, (k0 : _ = _), e0⟩ := hall 0 _ rfl
      obtain ⟨_, (k1 : _ = _), e1⟩ := hall 1 _ rfl
      obtain ⟨_, (k2 : _ = _), e2⟩ := hall 2 _ rfl
      obtain ⟨_, (k3 : _ = _), e3⟩ := hall 3 _ rfl
      obtain ⟨_, (k4 : _ = _), e4⟩ := hall 4 _ rfl
      obtain ⟨_, (k5 : _ = _), e5⟩ := hall 5 _ rfl
      obtain ⟨_, (k6 : _ = _), e6⟩ := hall 6 _ rfl
      obtain ⟨_, (k7 : _ = _), e7⟩ := hall 7 _ rfl
      subst k0 k1 k2 k3 k4 k5 k6 k7
      intro p hp
      simp only [List.mem_cons, List.not_mem_nil, or_false] at hp
      rcases hp with rfl | rfl | rfl | rfl | rfl | rfl | rfl | rfl
      · exact e0 _ rfl
      · exact e1 _ rfl
      · exact e2 _ rfl
      · exact e3 _ rfl
      · exact e4 _ rfl
      · exact e5 _ rfl
      · exact e6 _ rfl
      · exact e7 _ rfl
    have hact := act_fold _ hB hv (by kernel_rfl)
    subst hact
    clear hv hall hB
    refine (‹∀ (a : Act) (w : World), Code.wp Try.prog _ _ a w → _›) _ w8 ?_
    simp only [List.foldl, List.setIfInBounds_toArray, List.set_cons_succ, List.set_cons_zero]
    generalize w8 = w2 at *
    have HB2 := Lib.hid (HB1.out.trans (hC.mono HB1.out.size))
    have n2 := (hC.block w.heap.size (Array.getElem?_eq_some_iff.1 HN0.out).1).trans HN0.out
    have HN2 := Lib.hid n2
    obtain ⟨p0, p1, p2, p3⟩ := row4 n2
    have c0 := (HB2.out.cell (p := ⟨lb, 0, none⟩) HLB.out).trans HC.out
    have HXC : Hid (∀ W, Below w2.heap.size w2 W → W.cell? ⟨lb, 0, none⟩ = some (.pointer (some ⟨g, 0, none⟩)) ∧ W.cell? ⟨w.heap.size, 0, none⟩ = some (.int .i64 a.1) ∧ W.cell? ⟨w.heap.size, 1, none⟩ = some (.int .i64 a.2) ∧ W.cell? ⟨w.heap.size, 2, none⟩ = some (.int .i64 b.1) ∧ W.cell? ⟨w.heap.size, 3, none⟩ = some (.int .i64 b.2)) := Lib.hid fun W hW => ⟨(hW.cell (p := ⟨lb, 0, none⟩) (Nat.lt_of_lt_of_le HLB.out HB2.out.size)).trans c0, row4 ((hW.block _ (Array.getElem?_eq_some_iff.1 n2).1).trans n2)⟩
    clear hC n2
    obtain rfl : ka = 4 := by rw [HEKA.out]; exact hkn
    go_upto_region 7 with fail
    clear p0 p1 p2 p3 c0
    by_cases hkk : kb = 4
    · subst hkk
      refine wp_region_slotsG (psi [isV (.pointer (some ⟨lb, 0, none⟩)), isV (.pointer (some ⟨lb, 0, none⟩)), isV (.pointer (some ⟨lb, 0, none⟩)), isV (.pointer (some ⟨g, 0, none⟩)), isV (.pointer (some ⟨w.heap.size, 2, none⟩)), isV (.agg #[.int .i64 b.1, .int .i64 b.2]), isV (.int .i64 4), isV (.int .i64 4), isV (.bool true), isV (.bool true), isV (.pointer (some ⟨lb, 0, none⟩)), isV (.pointer (some ⟨lb, 0, none⟩)), isV (.pointer (some ⟨lb, 0, none⟩)), isV (.pointer (some ⟨g, 0, none⟩)), isV (.pointer (some ⟨w.heap.size, 0, none⟩)), isV (.agg #[.int .i64 a.1, .int .i64 a.2]), isV (.int .i64 ((la : Nat) : Int)), isV (.pointer (some ⟨lb, 0, none⟩)), isV (.pointer (some ⟨lb, 0, none⟩)), isV (.pointer (some ⟨lb, 0, none⟩)), isV (.pointer (some ⟨g, 0, none⟩)), isV (.pointer (some ⟨w.heap.size, 2, none⟩)), isV (.agg #[.int .i64 b.1, .int .i64 b.2]), isV (.int .i64 ((nb : Nat) : Int)), isV (.bool (((la : Nat) : Int) == ((nb : Nat) : Int))), isV (.bool (((la : Nat) : Int) == ((nb : Nat) : Int))), isV (.bool (((la : Nat) : Int) == ((nb : Nat) : Int)))]) (fun W => Below w2.heap.size w2 W) (by kernel_rfl) (Below.refl _ _).drew (psi_mono ?_) (by kernel_rfl) (by kernel_rfl) ?_ ?_
      · intro p hp
        simp only [List.mem_cons, List.not_mem_nil, or_false] at hp
        (repeat' rcases hp with rfl | hp) <;> first | exact isV_stays _ | (subst hp; exact isV_stays _)
      · refine AllOps.cons ?_ ?_
        · intro aa W hC hB hdep
          refine .inl ⟨rfl, ?_⟩
          have b0 : aa.tmps.getD 0 undef = .pointer (some ⟨lb, 0, none⟩) := hB.off 0 (by kernel_rfl)
          clear hB hdep
          refine goes_value (v := .pointer (some ⟨lb, 0, none⟩)) ?_ hC rfl
          simp only [execOp, Act.eval, b0]
          go_simp
        refine AllOps.cons ?_ ?_
        · intro aa W hC hB hdep
          refine .inl ⟨rfl, ?_⟩
          obtain ⟨x0, (q0 : x0 = .pointer (some ⟨lb, 0, none⟩)), e0⟩ := hdep 0 19 (by kernel_rfl)
          subst q0
          clear hB hdep
          refine goes_value (v := .pointer (some ⟨lb, 0, none⟩)) ?_ hC rfl
          simp only [execOp, Act.eval, e0]
          go_simp
        refine AllOps.cons ?_ ?_
        · intro aa W hC hB hdep
          refine .inl ⟨rfl, ?_⟩
          obtain ⟨x0, (q0 : x0 = .pointer (some ⟨lb, 0, none⟩)), e0⟩ := hdep 1 20 (by kernel_rfl)
          subst q0
          clear hB hdep
          refine goes_value (v := .pointer (some ⟨lb, 0, none⟩)) ?_ hC rfl
          simp only [execOp, Act.eval, e0]
          go_simp
        refine AllOps.cons ?_ ?_
        · intro aa W hC hB hdep
          refine .inl ⟨rfl, ?_⟩
          obtain ⟨x0, (q0 : x0 = .pointer (some ⟨lb, 0, none⟩)), e0⟩ := hdep 2 21 (by kernel_rfl)
          subst q0
          obtain ⟨c0, p0, p1, p2, p3⟩ := HXC.out W hC
          clear hB hdep
          refine goes_value (v := .pointer (some ⟨g, 0, none⟩)) ?_ hC rfl
          simp only [execOp, Act.eval, e0]
          go_simp
        refine AllOps.cons ?_ ?_
        · intro aa W hC hB hdep
          refine .inl ⟨rfl, ?_⟩
          have b0 : aa.tmps.getD 3 undef = .pointer (some ⟨w.heap.size, 0, none⟩) := hB.off 3 (by kernel_rfl)
          clear hB hdep
          refine goes_value (v := .pointer (some ⟨w.heap.size, 2, none⟩)) ?_ hC rfl
          simp only [execOp, Act.eval, b0]
          go_simp
        refine AllOps.cons ?_ ?_
        · intro aa W hC hB hdep
          refine .inl ⟨rfl, ?_⟩
          obtain ⟨x0, (q0 : x0 = .pointer (some ⟨w.heap.size, 2, none⟩)), e0⟩ := hdep 4 23 (by kernel_rfl)
          subst q0
          obtain ⟨c0, p0, p1, p2, p3⟩ := HXC.out W hC
          clear hB hdep
          refine goes_value (v := .agg #[.int .i64 b.1, .int .i64 b.2]) ?_ hC rfl
          simp only [execOp, Act.eval, e0]
          go_simp
        refine AllOps.cons ?_ ?_
        · intro aa W hC hB hdep
          refine .inl ⟨rfl, ?_⟩
          obtain ⟨x0, (q0 : x0 = .pointer (some ⟨g, 0, none⟩)), e0⟩ := hdep 3 22 (by kernel_rfl)
          subst q0
          obtain ⟨x1, (q1 : x1 = .agg #[.int .i64 b.1, .int .i64 b.2]), e1⟩ := hdep 5 24 (by kernel_rfl)
          subst q1
          clear hB hdep
          refine goes_call (f := 26) (args := #[.pointer (some ⟨g, 0, none⟩), .agg #[.int .i64 b.1, .int .i64 b.2]]) ?_ ?_
          · simp only [execOp]
            go_simp
          · exact (HKB.out W (HS.out.below (HB2.out.trans (hC.mono HB2.out.size)))).mono fun e w7 ⟨he, hb⟩ => ⟨_, he, hC.trans (hb.mono hC.size), hb, rfl⟩
        refine AllOps.cons ?_ ?_
        · intro aa W hC hB hdep
          refine .inl ⟨rfl, ?_⟩
          have b0 : aa.tmps.getD 5 undef = .int .i64 4 := hB.off 5 (by kernel_rfl)
          clear hB hdep
          refine goes_value (v := .int .i64 4) ?_ hC rfl
          simp only [execOp, Act.eval, b0]
          go_simp
        refine AllOps.cons ?_ ?_
        · intro aa W hC hB hdep
          refine .inl ⟨rfl, ?_⟩
          obtain ⟨x0, (q0 : x0 = .int .i64 4), e0⟩ := hdep 6 25 (by kernel_rfl)
          subst q0
          obtain ⟨x1, (q1 : x1 = .int .i64 4), e1⟩ := hdep 7 26 (by kernel_rfl)
          subst q1
          clear hB hdep
          refine goes_value (v := .bool true) ?_ hC rfl
          simp only [execOp, Act.eval, e0, e1]
          go_simp
        refine AllOps.cons ?_ ?_
        · intro aa W hC hB hdep
          refine .inl ⟨rfl, ?_⟩
          obtain ⟨x0, (q0 : x0 = .bool true), e0⟩ := hdep 8 27 (by kernel_rfl)
          subst q0
          clear hB hdep
          refine goes_value (v := .bool true) ?_ hC rfl
          simp only [execOp, Act.eval, e0]
          go_simp
        refine AllOps.cons ?_ ?_
        · intro aa W hC hB hdep
          obtain ⟨xg, (qg : xg = .bool true), eg⟩ := hdep 9 28 (by kernel_rfl)
          subst qg
          refine .inl ⟨(wanted_is (g := 9) (t := 28) (b := true) (c := true) rfl rfl (by rw [hB.size]; exact Nat.le_of_ble_eq_true rfl) eg).trans rfl, ?_⟩
          have b0 : aa.tmps.getD 0 undef = .pointer (some ⟨lb, 0, none⟩) := hB.off 0 (by kernel_rfl)
          clear hB hdep
          refine goes_value (v := .pointer (some ⟨lb, 0, none⟩)) ?_ hC rfl
          simp only [execOp, Act.eval, b0]
          go_simp
        refine AllOps.cons ?_ ?_
        · intro aa W hC hB hdep
          obtain ⟨xg, (qg : xg = .bool true), eg⟩ := hdep 9 28 (by kernel_rfl)
          subst qg
          refine .inl ⟨(wanted_is (g := 9) (t := 28) (b := true) (c := true) rfl rfl (by rw [hB.size]; exact Nat.le_of_ble_eq_true rfl) eg).trans rfl, ?_⟩
          obtain ⟨x0, (q0 : x0 = .pointer (some ⟨lb, 0, none⟩)), e0⟩ := hdep 10 29 (by kernel_rfl)
          subst q0
          clear hB hdep
          refine goes_value (v := .pointer (some ⟨lb, 0, none⟩)) ?_ hC rfl
          simp only [execOp, Act.eval, e0]
          go_simp
        refine AllOps.cons ?_ ?_
        · intro aa W hC hB hdep
          obtain ⟨xg, (qg : xg = .bool true), eg⟩ := hdep 9 28 (by kernel_rfl)
          subst qg
          refine .inl ⟨(wanted_is (g := 9) (t := 28) (b := true) (c := true) rfl rfl (by rw [hB.size]; exact Nat.le_of_ble_eq_true rfl) eg).trans rfl, ?_⟩
          obtain ⟨x0, (q0 : x0 = .pointer (some ⟨lb, 0, none⟩)), e0⟩ := hdep 11 30 (by kernel_rfl)
          subst q0
          clear hB hdep
          refine goes_value (v := .pointer (some ⟨lb, 0, none⟩)) ?_ hC rfl
          simp only [execOp, Act.eval, e0]
          go_simp
        refine AllOps.cons ?_ ?_
        · intro aa W hC hB hdep
          obtain ⟨xg, (qg : xg = .bool true), eg⟩ := hdep 9 28 (by kernel_rfl)
          subst qg
          refine .inl ⟨(wanted_is (g := 9) (t := 28) (b := true) (c := true) rfl rfl (by rw [hB.size]; exact Nat.le_of_ble_eq_true rfl) eg).trans rfl, ?_⟩
          obtain ⟨x0, (q0 : x0 = .pointer (some ⟨lb, 0, none⟩)), e0⟩ := hdep 12 31 (by kernel_rfl)
          subst q0
          obtain ⟨c0, p0, p1, p2, p3⟩ := HXC.out W hC
          clear hB hdep
          refine goes_value (v := .pointer (some ⟨g, 0, none⟩)) ?_ hC rfl
          simp only [execOp, Act.eval, e0]
          go_simp
        refine AllOps.cons ?_ ?_
        · intro aa W hC hB hdep
          obtain ⟨xg, (qg : xg = .bool true), eg⟩ := hdep 9 28 (by kernel_rfl)
          subst qg
          refine .inl ⟨(wanted_is (g := 9) (t := 28) (b := true) (c := true) rfl rfl (by rw [hB.size]; exact Nat.le_of_ble_eq_true rfl) eg).trans rfl, ?_⟩
          have b0 : aa.tmps.getD 3 undef = .pointer (some ⟨w.heap.size, 0, none⟩) := hB.off 3 (by kernel_rfl)
          clear hB hdep
          refine goes_value (v := .pointer (some ⟨w.heap.size, 0, none⟩)) ?_ hC rfl
          simp only [execOp, Act.eval, b0]
          go_simp
        refine AllOps.cons ?_ ?_
        · intro aa W hC hB hdep
          obtain ⟨xg, (qg : xg = .bool true), eg⟩ := hdep 9 28 (by kernel_rfl)
          subst qg
          refine .inl ⟨(wanted_is (g := 9) (t := 28) (b := true) (c := true) rfl rfl (by rw [hB.size]; exact Nat.le_of_ble_eq_true rfl) eg).trans rfl, ?_⟩
          obtain ⟨x0, (q0 : x0 = .pointer (some ⟨w.heap.size, 0, none⟩)), e0⟩ := hdep 14 33 (by kernel_rfl)
          subst q0
          obtain ⟨c0, p0, p1, p2, p3⟩ := HXC.out W hC
          clear hB hdep
          refine goes_value (v := .agg #[.int .i64 a.1, .int .i64 a.2]) ?_ hC rfl
          simp only [execOp, Act.eval, e0]
          go_simp
        refine AllOps.cons ?_ ?_
        · intro aa W hC hB hdep
          obtain ⟨xg, (qg : xg = .bool true), eg⟩ := hdep 9 28 (by kernel_rfl)
          subst qg
          refine .inl ⟨(wanted_is (g := 9) (t := 28) (b := true) (c := true) rfl rfl (by rw [hB.size]; exact Nat.le_of_ble_eq_true rfl) eg).trans rfl, ?_⟩
          obtain ⟨x0, (q0 : x0 = .pointer (some ⟨g, 0, none⟩)), e0⟩ := hdep 13 32 (by kernel_rfl)
          subst q0
          obtain ⟨x1, (q1 : x1 = .agg #[.int .i64 a.1, .int .i64 a.2]), e1⟩ := hdep 15 34 (by kernel_rfl)
          subst q1
          clear hB hdep
          refine goes_call (f := 27) (args := #[.pointer (some ⟨g, 0, none⟩), .agg #[.int .i64 a.1, .int .i64 a.2]]) ?_ ?_
          · simp only [execOp]
            go_simp
          · exact (HLA.out W (HS.out.below (HB2.out.trans (hC.mono HB2.out.size)))).mono fun e w7 ⟨he, hb⟩ => ⟨_, he, hC.trans (hb.mono hC.size), hb, rfl⟩
        refine AllOps.cons ?_ ?_
        · intro aa W hC hB hdep
          obtain ⟨xg, (qg : xg = .bool true), eg⟩ := hdep 9 28 (by kernel_rfl)
          subst qg
          refine .inl ⟨(wanted_is (g := 9) (t := 28) (b := true) (c := true) rfl rfl (by rw [hB.size]; exact Nat.le_of_ble_eq_true rfl) eg).trans rfl, ?_⟩
          have b0 : aa.tmps.getD 0 undef = .pointer (some ⟨lb, 0, none⟩) := hB.off 0 (by kernel_rfl)
          clear hB hdep
          refine goes_value (v := .pointer (some ⟨lb, 0, none⟩)) ?_ hC rfl
          simp only [execOp, Act.eval, b0]
          go_simp
        refine AllOps.cons ?_ ?_
        · intro aa W hC hB hdep
          obtain ⟨xg, (qg : xg = .bool true), eg⟩ := hdep 9 28 (by kernel_rfl)
          subst qg
          refine .inl ⟨(wanted_is (g := 9) (t := 28) (b := true) (c := true) rfl rfl (by rw [hB.size]; exact Nat.le_of_ble_eq_true rfl) eg).trans rfl, ?_⟩
          obtain ⟨x0, (q0 : x0 = .pointer (some ⟨lb, 0, none⟩)), e0⟩ := hdep 17 36 (by kernel_rfl)
          subst q0
          clear hB hdep
          refine goes_value (v := .pointer (some ⟨lb, 0, none⟩)) ?_ hC rfl
          simp only [execOp, Act.eval, e0]
          go_simp
        refine AllOps.cons ?_ ?_
        · intro aa W hC hB hdep
          obtain ⟨xg, (qg : xg = .bool true), eg⟩ := hdep 9 28 (by kernel_rfl)
          subst qg
          refine .inl ⟨(wanted_is (g := 9) (t := 28) (b := true) (c := true) rfl rfl (by rw [hB.size]; exact Nat.le_of_ble_eq_true rfl) eg).trans rfl, ?_⟩
          obtain ⟨x0, (q0 : x0 = .pointer (some ⟨lb, 0, none⟩)), e0⟩ := hdep 18 37 (by kernel_rfl)
          subst q0
          clear hB hdep
          refine goes_value (v := .pointer (some ⟨lb, 0, none⟩)) ?_ hC rfl
          simp only [execOp, Act.eval, e0]
          go_simp
        refine AllOps.cons ?_ ?_
        · intro aa W hC hB hdep
          obtain ⟨xg, (qg : xg = .bool true), eg⟩ := hdep 9 28 (by kernel_rfl)
          subst qg
          refine .inl ⟨(wanted_is (g := 9) (t := 28) (b := true) (c := true) rfl rfl (by rw [hB.size]; exact Nat.le_of_ble_eq_true rfl) eg).trans rfl, ?_⟩
          obtain ⟨x0, (q0 : x0 = .pointer (some ⟨lb, 0, none⟩)), e0⟩ := hdep 19 38 (by kernel_rfl)
          subst q0
          obtain ⟨c0, p0, p1, p2, p3⟩ := HXC.out W hC
          clear hB hdep
          refine goes_value (v := .pointer (some ⟨g, 0, none⟩)) ?_ hC rfl
          simp only [execOp, Act.eval, e0]
          go_simp
        refine AllOps.cons ?_ ?_
        · intro aa W hC hB hdep
          obtain ⟨xg, (qg : xg = .bool true), eg⟩ := hdep 9 28 (by kernel_rfl)
          subst qg
          refine .inl ⟨(wanted_is (g := 9) (t := 28) (b := true) (c := true) rfl rfl (by rw [hB.size]; exact Nat.le_of_ble_eq_true rfl) eg).trans rfl, ?_⟩
          have b0 : aa.tmps.getD 3 undef = .pointer (some ⟨w.heap.size, 0, none⟩) := hB.off 3 (by kernel_rfl)
          clear hB hdep
          refine goes_value (v := .pointer (some ⟨w.heap.size, 2, none⟩)) ?_ hC rfl
          simp only [execOp, Act.eval, b0]
          go_simp
        refine AllOps.cons ?_ ?_
        · intro aa W hC hB hdep
          obtain ⟨xg, (qg : xg = .bool true), eg⟩ := hdep 9 28 (by kernel_rfl)
          subst qg
          refine .inl ⟨(wanted_is (g := 9) (t := 28) (b := true) (c := true) rfl rfl (by rw [hB.size]; exact Nat.le_of_ble_eq_true rfl) eg).trans rfl, ?_⟩
          obtain ⟨x0, (q0 : x0 = .pointer (some ⟨w.heap.size, 2, none⟩)), e0⟩ := hdep 21 40 (by kernel_rfl)
          subst q0
          obtain ⟨c0, p0, p1, p2, p3⟩ := HXC.out W hC
          clear hB hdep
          refine goes_value (v := .agg #[.int .i64 b.1, .int .i64 b.2]) ?_ hC rfl
          simp only [execOp, Act.eval, e0]
          go_simp
        refine AllOps.cons ?_ ?_
        · intro aa W hC hB hdep
          obtain ⟨xg, (qg : xg = .bool true), eg⟩ := hdep 9 28 (by kernel_rfl)
          subst qg
          refine .inl ⟨(wanted_is (g := 9) (t := 28) (b := true) (c := true) rfl rfl (by rw [hB.size]; exact Nat.le_of_ble_eq_true rfl) eg).trans rfl, ?_⟩
          obtain ⟨x0, (q0 : x0 = .pointer (some ⟨g, 0, none⟩)), e0⟩ := hdep 20 39 (by kernel_rfl)
          subst q0
          obtain ⟨x1, (q1 : x1 = .agg #[.int .i64 b.1, .int .i64 b.2]), e1⟩ := hdep 22 41 (by kernel_rfl)
          subst q1
          clear hB hdep
          refine goes_call (f := 27) (args := #[.pointer (some ⟨g, 0, none⟩), .agg #[.int .i64 b.1, .int .i64 b.2]]) ?_ ?_
          · simp only [execOp]
            go_simp
          · exact (HNB.out W (HS.out.below (HB2.out.trans (hC.mono HB2.out.size)))).mono fun e w7 ⟨he, hb⟩ => ⟨_, he, hC.trans (hb.mono hC.size), hb, rfl⟩
        refine AllOps.cons ?_ ?_
        · intro aa W hC hB hdep
          obtain ⟨xg, (qg : xg = .bool true), eg⟩ := hdep 9 28 (by kernel_rfl)
          subst qg
          refine .inl ⟨(wanted_is (g := 9) (t := 28) (b := true) (c := true) rfl rfl (by rw [hB.size]; exact Nat.le_of_ble_eq_true rfl) eg).trans rfl, ?_⟩
          obtain ⟨x0, (q0 : x0 = .int .i64 ((la : Nat) : Int)), e0⟩ := hdep 16 35 (by kernel_rfl)
          subst q0
          obtain ⟨x1, (q1 : x1 = .int .i64 ((nb : Nat) : Int)), e1⟩ := hdep 23 42 (by kernel_rfl)
          subst q1
          clear hB hdep
          refine goes_value (v := .bool (((la : Nat) : Int) == ((nb : Nat) : Int))) ?_ hC rfl
          simp only [execOp, Act.eval, e0, e1]
          go_simp
        refine AllOps.cons ?_ ?_
        · intro aa W hC hB hdep
          refine .inl ⟨rfl, ?_⟩
          obtain ⟨x0, (q0 : x0 = .bool true), e0⟩ := hdep 9 28 (by kernel_rfl)
          subst q0
          obtain ⟨x1, (q1 : x1 = .bool (((la : Nat) : Int) == ((nb : Nat) : Int))), e1⟩ := hdep 24 43 (by kernel_rfl)
          subst q1
          clear hB hdep
          refine goes_value (v := .bool (((la : Nat) : Int) == ((nb : Nat) : Int))) ?_ hC rfl
          simp only [execOp, Act.eval, e0, e1]
          go_simp
        refine AllOps.cons ?_ ?_
        · intro aa W hC hB hdep
          refine .inl ⟨rfl, ?_⟩
          obtain ⟨x0, (q0 : x0 = .bool (((la : Nat) : Int) == ((nb : Nat) : Int))), e0⟩ := hdep 25 44 (by kernel_rfl)
          subst q0
          clear hB hdep
          refine goes_value (v := .bool (((la : Nat) : Int) == ((nb : Nat) : Int))) ?_ hC rfl
          simp only [execOp, Act.eval, e0]
          go_simp
        exact trivial
      · intro aa w8 hC hB hall
        have hv : ∀ p ∈ [((19 : Nat), (.pointer (some ⟨lb, 0, none⟩) : Value)), ((20 : Nat), (.pointer (some ⟨lb, 0, none⟩) : Value)), ((21 : Nat), (.pointer (some ⟨lb, 0, none⟩) : Value)), ((22 : Nat), (.pointer (some ⟨g, 0, none⟩) : Value)), ((23 : Nat), (.pointer (some ⟨w.heap.size, 2, none⟩) : Value)), ((24 : Nat), (.agg #[.int .i64 b.1, .int .i64 b.2] : Value)), ((25 : Nat), (.int .i64 4 : Value)), ((26 : Nat), (.int .i64 4 : Value)), ((27 : Nat), (.bool true : Value)), ((28 : Nat), (.bool true : Value)), ((29 : Nat), (.pointer (some ⟨lb, 0, none⟩) : Value)), ((30 : Nat), (.pointer (some ⟨lb, 0, none⟩) : Value)), ((31 : Nat), (.pointer (some ⟨lb, 0, none⟩) : Value)), ((32 : Nat), (.pointer (some ⟨g, 0, none⟩) : Value)), ((33 : Nat), (.pointer (some ⟨w.heap.size, 0, none⟩) : Value)), ((34 : Nat), (.agg #[.int .i64 a.1, .int .i64 a.2] : Value)), ((35 : Nat), (.int .i64 ((la : Nat) : Int) : Value)), ((36 : Nat), (.pointer (some ⟨lb, 0, none⟩) : Value)), ((37 : Nat), (.pointer (some ⟨lb, 0, none⟩) : Value)), ((38 : Nat), (.pointer (some ⟨lb, 0, none⟩) : Value)), ((39 : Nat), (.pointer (some ⟨g, 0, none⟩) : Value)), ((40 : Nat), (.pointer (some ⟨w.heap.size, 2, none⟩) : Value)), ((41 : Nat), (.agg #[.int .i64 b.1, .int .i64 b.2] : Value)), ((42 : Nat), (.int .i64 ((nb : Nat) : Int) : Value)), ((43 : Nat), (.bool (((la : Nat) : Int) == ((nb : Nat) : Int)) : Value)), ((44 : Nat), (.bool (((la : Nat) : Int) == ((nb : Nat) : Int)) : Value)), ((4 : Nat), (.bool (((la : Nat) : Int) == ((nb : Nat) : Int)) : Value))], aa.tmps.getD p.1 undef = p.2 := by
          obtain ⟨_, (k0 : _ = _), e0⟩ := hall 0 _ rfl
          obtain ⟨_, (k1 : _ = _), e1⟩ := hall 1 _ rfl
          obtain ⟨_, (k2 : _ = _), e2⟩ := hall 2 _ rfl
          obtain ⟨_, (k3 : _ = _), e3⟩ := hall 3 _ rfl
          obtain ⟨_, (k4 : _ = _), e4⟩ := hall 4 _ rfl
          obtain ⟨_, (k5 : _ = _), e5⟩ := hall 5 _ rfl
          obtain ⟨_, (k6 : _ = _), e6⟩ := hall 6 _ rfl
          obtain ⟨_, (k7 : _ = _), e7⟩ := hall 7 _ rfl
          obtain ⟨_, (k8 : _ = _), e8⟩ := hall 8 _ rfl
          obtain ⟨_, (k9 : _ = _), e9⟩ := hall 9 _ rfl
          obtain ⟨_, (k10 : _ = _), e10⟩ := hall 10 _ rfl
          obtain ⟨_, (k11 : _ = _), e11⟩ := hall 11 _ rfl
          obtain ⟨_, (k12 : _ = _), e12⟩ := hall 12 _ rfl
          obtain ⟨_, (k13 : _ = _), e13⟩ := hall 13 _ rfl
          obtain ⟨_, (k14 : _ = _), e14⟩ := hall 14 _ rfl
          obtain ⟨_, (k15 : _ = _), e15⟩ := hall 15 _ rfl
          obtain ⟨_, (k16 : _ = _), e16⟩ := hall 16 _ rfl
          obtain ⟨_, (k17 : _ = _), e17⟩ := hall 17 _ rfl
          obtain ⟨_, (k18 : _ = _), e18⟩ := hall 18 _ rfl
          obtain ⟨_, (k19 : _ = _), e19⟩ := hall 19 _ rfl
          obtain ⟨_, (k20 : _ = _), e20⟩ := hall 20 _ rfl
          obtain ⟨_, (k21 : _ = _), e21⟩ := hall 21 _ rfl
          obtain ⟨_, (k22 : _ = _), e22⟩ := hall 22 _ rfl
          obtain ⟨_, (k23 : _ = _), e23⟩ := hall 23 _ rfl
          obtain ⟨_, (k24 : _ = _), e24⟩ := hall 24 _ rfl
          obtain ⟨_, (k25 : _ = _), e25⟩ := hall 25 _ rfl
          obtain ⟨_, (k26 : _ = _), e26⟩ := hall 26 _ rfl
          subst k0 k1 k2 k3 k4 k5 k6 k7 k8 k9 k10 k11 k12 k13 k14 k15 k16 k17 k18 k19 k20 k21 k22 k23 k24 k25 k26
          intro p hp
          simp only [List.mem_cons, List.not_mem_nil, or_false] at hp
          rcases hp with rfl | rfl | rfl | rfl | rfl | rfl | rfl | rfl | rfl | rfl | rfl | rfl | rfl | rfl | rfl | rfl | rfl | rfl | rfl | rfl | rfl | rfl | rfl | rfl | rfl | rfl | rfl
          · exact e0 _ rfl
          · exact e1 _ rfl
          · exact e2 _ rfl
          · exact e3 _ rfl
          · exact e4 _ rfl
          · exact e5 _ rfl
          · exact e6 _ rfl
          · exact e7 _ rfl
          · exact e8 _ rfl
          · exact e9 _ rfl
          · exact e10 _ rfl
          · exact e11 _ rfl
          · exact e12 _ rfl
          · exact e13 _ rfl
          · exact e14 _ rfl
          · exact e15 _ rfl
          · exact e16 _ rfl
          · exact e17 _ rfl
          · exact e18 _ rfl
          · exact e19 _ rfl
          · exact e20 _ rfl
          · exact e21 _ rfl
          · exact e22 _ rfl
          · exact e23 _ rfl
          · exact e24 _ rfl
          · exact e25 _ rfl
          · exact e26 _ rfl
        have hact := act_fold _ hB hv (by kernel_rfl)
        subst hact
        clear hv hall hB
        refine (‹∀ (a : Act) (w : World), Code.wp Try.prog _ _ a w → _›) _ w8 ?_
        simp only [List.foldl, List.setIfInBounds_toArray, List.set_cons_succ, List.set_cons_zero]
        go_wp2_with fail
        go_ret
        refine ⟨ret_bl ?_, HB2.out.trans (hC.mono HB2.out.size)⟩
        by_cases hln : la = nb
        · rw [compA_yes (by rw [← HEKA.out]; decide) (by rw [← HEKA.out]; decide) (by rw [← HEKA.out, ← HEKB.out]) (by rw [← HELA.out, ← HELB.out]; exact hln)]
          simp [hln]
        · rw [compA_len (by rw [← HELA.out, ← HELB.out]; exact hln), beq_eq_false_iff_ne]
          omega
    · have hkf : (kb == 4) = false := by rw [beq_eq_false_iff_ne]; exact hkk
      refine wp_region_slotsG (psi [isV (.pointer (some ⟨lb, 0, none⟩)), isV (.pointer (some ⟨lb, 0, none⟩)), isV (.pointer (some ⟨lb, 0, none⟩)), isV (.pointer (some ⟨g, 0, none⟩)), isV (.pointer (some ⟨w.heap.size, 2, none⟩)), isV (.agg #[.int .i64 b.1, .int .i64 b.2]), isV (.int .i64 kb), isV (.int .i64 4), isV (.bool false), isV (.bool false), isV (undef), isV (undef), isV (undef), isV (undef), isV (undef), isV (undef), isV (undef), isV (undef), isV (undef), isV (undef), isV (undef), isV (undef), isV (undef), isV (undef), isV (undef), isV (.bool false), isV (.bool false)]) (fun W => Below w2.heap.size w2 W) (by kernel_rfl) (Below.refl _ _).drew (psi_mono ?_) (by kernel_rfl) (by kernel_rfl) ?_ ?_
      · intro p hp
        simp only [List.mem_cons, List.not_mem_nil, or_false] at hp
        (repeat' rcases hp with rfl | hp) <;> first | exact isV_stays _ | (subst hp; exact isV_stays _)
      · refine AllOps.cons ?_ ?_
        · intro aa W hC hB hdep
          refine .inl ⟨rfl, ?_⟩
          have b0 : aa.tmps.getD 0 undef = .pointer (some ⟨lb, 0, none⟩) := hB.off 0 (by kernel_rfl)
          clear hB hdep
          refine goes_value (v := .pointer (some ⟨lb, 0, none⟩)) ?_ hC rfl
          simp only [execOp, Act.eval, b0]
          go_simp
        refine AllOps.cons ?_ ?_
        · intro aa W hC hB hdep
          refine .inl ⟨rfl, ?_⟩
          obtain ⟨x0, (q0 : x0 = .pointer (some ⟨lb, 0, none⟩)), e0⟩ := hdep 0 19 (by kernel_rfl)
          subst q0
          clear hB hdep
          refine goes_value (v := .pointer (some ⟨lb, 0, none⟩)) ?_ hC rfl
          simp only [execOp, Act.eval, e0]
          go_simp
        refine AllOps.cons ?_ ?_
        · intro aa W hC hB hdep
          refine .inl ⟨rfl, ?_⟩
          obtain ⟨x0, (q0 : x0 = .pointer (some ⟨lb, 0, none⟩)), e0⟩ := hdep 1 20 (by kernel_rfl)
          subst q0
          clear hB hdep
          refine goes_value (v := .pointer (some ⟨lb, 0, none⟩)) ?_ hC rfl
          simp only [execOp, Act.eval, e0]
          go_simp
        refine AllOps.cons ?_ ?_
        · intro aa W hC hB hdep
          refine .inl ⟨rfl, ?_⟩
          obtain ⟨x0, (q0 : x0 = .pointer (some ⟨lb, 0, none⟩)), e0⟩ := hdep 2 21 (by kernel_rfl)
          subst q0
          obtain ⟨c0, p0, p1, p2, p3⟩ := HXC.out W hC
          clear hB hdep
          refine goes_value (v := .pointer (some ⟨g, 0, none⟩)) ?_ hC rfl
          simp only [execOp, Act.eval, e0]
          go_simp
        refine AllOps.cons ?_ ?_
        · intro aa W hC hB hdep
          refine .inl ⟨rfl, ?_⟩
          have b0 : aa.tmps.getD 3 undef = .pointer (some ⟨w.heap.size, 0, none⟩) := hB.off 3 (by kernel_rfl)
          clear hB hdep
          refine goes_value (v := .pointer (some ⟨w.heap.size, 2, none⟩)) ?_ hC rfl
          simp only [execOp, Act.eval, b0]
          go_simp
        refine AllOps.cons ?_ ?_
        · intro aa W hC hB hdep
          refine .inl ⟨rfl, ?_⟩
          obtain ⟨x0, (q0 : x0 = .pointer (some ⟨w.heap.size, 2, none⟩)), e0⟩ := hdep 4 23 (by kernel_rfl)
          subst q0
          obtain ⟨c0, p0, p1, p2, p3⟩ := HXC.out W hC
          clear hB hdep
          refine goes_value (v := .agg #[.int .i64 b.1, .int .i64 b.2]) ?_ hC rfl
          simp only [execOp, Act.eval, e0]
          go_simp
        refine AllOps.cons ?_ ?_
        · intro aa W hC hB hdep
          refine .inl ⟨rfl, ?_⟩
          obtain ⟨x0, (q0 : x0 = .pointer (some ⟨g, 0, none⟩)), e0⟩ := hdep 3 22 (by kernel_rfl)
          subst q0
          obtain ⟨x1, (q1 : x1 = .agg #[.int .i64 b.1, .int .i64 b.2]), e1⟩ := hdep 5 24 (by kernel_rfl)
          subst q1
          clear hB hdep
          refine goes_call (f := 26) (args := #[.pointer (some ⟨g, 0, none⟩), .agg #[.int .i64 b.1, .int .i64 b.2]]) ?_ ?_
          · simp only [execOp]
            go_simp
          · exact (HKB.out W (HS.out.below (HB2.out.trans (hC.mono HB2.out.size)))).mono fun e w7 ⟨he, hb⟩ => ⟨_, he, hC.trans (hb.mono hC.size), hb, rfl⟩
        refine AllOps.cons ?_ ?_
        · intro aa W hC hB hdep
          refine .inl ⟨rfl, ?_⟩
          have b0 : aa.tmps.getD 5 undef = .int .i64 4 := hB.off 5 (by kernel_rfl)
          clear hB hdep
          refine goes_value (v := .int .i64 4) ?_ hC rfl
          simp only [execOp, Act.eval, b0]
          go_simp
        refine AllOps.cons ?_ ?_
        · intro aa W hC hB hdep
          refine .inl ⟨rfl, ?_⟩
          obtain ⟨x0, (q0 : x0 = .int .i64 kb), e0⟩ := hdep 6 25 (by kernel_rfl)
          subst q0
          obtain ⟨x1, (q1 : x1 = .int .i64 4), e1⟩ := hdep 7 26 (by kernel_rfl)
          subst q1
          clear hB hdep
          refine goes_value (v := .bool false) ?_ hC rfl
          simp only [execOp, Act.eval, e0, e1]
          go_simp
        refine AllOps.cons ?_ ?_
        · intro aa W hC hB hdep
          refine .inl ⟨rfl, ?_⟩
          obtain ⟨x0, (q0 : x0 = .bool false), e0⟩ := hdep 8 27 (by kernel_rfl)
          subst q0
          clear hB hdep
          refine goes_value (v := .bool false) ?_ hC rfl
          simp only [execOp, Act.eval, e0]
          go_simp
        refine AllOps.cons ?_ ?_
        · intro aa W hC hB hdep
          obtain ⟨xg, (qg : xg = .bool false), eg⟩ := hdep 9 28 (by kernel_rfl)
          subst qg
          exact .inr ⟨(wanted_is (g := 9) (t := 28) (b := true) (c := false) rfl rfl (by rw [hB.size]; exact Nat.le_of_ble_eq_true rfl) eg).trans rfl, rfl⟩
        refine AllOps.cons ?_ ?_
        · intro aa W hC hB hdep
          obtain ⟨xg, (qg : xg = .bool false), eg⟩ := hdep 9 28 (by kernel_rfl)
          subst qg
          exact .inr ⟨(wanted_is (g := 9) (t := 28) (b := true) (c := false) rfl rfl (by rw [hB.size]; exact Nat.le_of_ble_eq_true rfl) eg).trans rfl, rfl⟩
        refine AllOps.cons ?_ ?_
        · intro aa W hC hB hdep
          obtain ⟨xg, (qg : xg = .bool false), eg⟩ := hdep 9 28 (by kernel_rfl)
          subst qg
          exact .inr ⟨(wanted_is (g := 9) (t := 28) (b := true) (c := false) rfl rfl (by rw [hB.size]; exact Nat.le_of_ble_eq_true rfl) eg).trans rfl, rfl⟩
        refine AllOps.cons ?_ ?_
        · intro aa W hC hB hdep
          obtain ⟨xg, (qg : xg = .bool false), eg⟩ := hdep 9 28 (by kernel_rfl)
          subst qg
          exact .inr ⟨(wanted_is (g := 9) (t := 28) (b := true) (c := false) rfl rfl (by rw [hB.size]; exact Nat.le_of_ble_eq_true rfl) eg).trans rfl, rfl⟩
        refine AllOps.cons ?_ ?_
        · intro aa W hC hB hdep
          obtain ⟨xg, (qg : xg = .bool false), eg⟩ := hdep 9 28 (by kernel_rfl)
          subst qg
          exact .inr ⟨(wanted_is (g := 9) (t := 28) (b := true) (c := false) rfl rfl (by rw [hB.size]; exact Nat.le_of_ble_eq_true rfl) eg).trans rfl, rfl⟩
        refine AllOps.cons ?_ ?_
        · intro aa W hC hB hdep
          obtain ⟨xg, (qg : xg = .bool false), eg⟩ := hdep 9 28 (by kernel_rfl)
          subst qg
          exact .inr ⟨(wanted_is (g := 9) (t := 28) (b := true) (c := false) rfl rfl (by rw [hB.size]; exact Nat.le_of_ble_eq_true rfl) eg).trans rfl, rfl⟩
        refine AllOps.cons ?_ ?_
        · intro aa W hC hB hdep
          obtain ⟨xg, (qg : xg = .bool false), eg⟩ := hdep 9 28 (by kernel_rfl)
          subst qg
          exact .inr ⟨(wanted_is (g := 9) (t := 28) (b := true) (c := false) rfl rfl (by rw [hB.size]; exact Nat.le_of_ble_eq_true rfl) eg).trans rfl, rfl⟩
        refine AllOps.cons ?_ ?_
        · intro aa W hC hB hdep
          obtain ⟨xg, (qg : xg = .bool false), eg⟩ := hdep 9 28 (by kernel_rfl)
          subst qg
          exact .inr ⟨(wanted_is (g := 9) (t := 28) (b := true) (c := false) rfl rfl (by rw [hB.size]; exact Nat.le_of_ble_eq_true rfl) eg).trans rfl, rfl⟩
        refine AllOps.cons ?_ ?_
        · intro aa W hC hB hdep
          obtain ⟨xg, (qg : xg = .bool false), eg⟩ := hdep 9 28 (by kernel_rfl)
          subst qg
          exact .inr ⟨(wanted_is (g := 9) (t := 28) (b := true) (c := false) rfl rfl (by rw [hB.size]; exact Nat.le_of_ble_eq_true rfl) eg).trans rfl, rfl⟩
        refine AllOps.cons ?_ ?_
        · intro aa W hC hB hdep
          obtain ⟨xg, (qg : xg = .bool false), eg⟩ := hdep 9 28 (by kernel_rfl)
          subst qg
          exact .inr ⟨(wanted_is (g := 9) (t := 28) (b := true) (c := false) rfl rfl (by rw [hB.size]; exact Nat.le_of_ble_eq_true rfl) eg).trans rfl, rfl⟩
        refine AllOps.cons ?_ ?_
        · intro aa W hC hB hdep
          obtain ⟨xg, (qg : xg = .bool false), eg⟩ := hdep 9 28 (by kernel_rfl)
          subst qg
          exact .inr ⟨(wanted_is (g := 9) (t := 28) (b := true) (c := false) rfl rfl (by rw [hB.size]; exact Nat.le_of_ble_eq_true rfl) eg).trans rfl, rfl⟩
        refine AllOps.cons ?_ ?_
        · intro aa W hC hB hdep
          obtain ⟨xg, (qg : xg = .bool false), eg⟩ := hdep 9 28 (by kernel_rfl)
          subst qg
          exact .inr ⟨(wanted_is (g := 9) (t := 28) (b := true) (c := false) rfl rfl (by rw [hB.size]; exact Nat.le_of_ble_eq_true rfl) eg).trans rfl, rfl⟩
        refine AllOps.cons ?_ ?_
        · intro aa W hC hB hdep
          obtain ⟨xg, (qg : xg = .bool false), eg⟩ := hdep 9 28 (by kernel_rfl)
          subst qg
          exact .inr ⟨(wanted_is (g := 9) (t := 28) (b := true) (c := false) rfl rfl (by rw [hB.size]; exact Nat.le_of_ble_eq_true rfl) eg).trans rfl, rfl⟩
        refine AllOps.cons ?_ ?_
        · intro aa W hC hB hdep
          obtain ⟨xg, (qg : xg = .bool false), eg⟩ := hdep 9 28 (by kernel_rfl)
          subst qg
          exact .inr ⟨(wanted_is (g := 9) (t := 28) (b := true) (c := false) rfl rfl (by rw [hB.size]; exact Nat.le_of_ble_eq_true rfl) eg).trans rfl, rfl⟩
        refine AllOps.cons ?_ ?_
        · intro aa W hC hB hdep
          obtain ⟨xg, (qg : xg = .bool false), eg⟩ := hdep 9 28 (by kernel_rfl)
          subst qg
          exact .inr ⟨(wanted_is (g := 9) (t := 28) (b := true) (c := false) rfl rfl (by rw [hB.size]; exact Nat.le_of_ble_eq_true rfl) eg).trans rfl, rfl⟩
        refine AllOps.cons ?_ ?_
        · intro aa W hC hB hdep
          refine .inl ⟨rfl, ?_⟩
          obtain ⟨x0, (q0 : x0 = .bool false), e0⟩ := hdep 9 28 (by kernel_rfl)
          subst q0
          obtain ⟨x1, (q1 : x1 = undef), e1⟩ := hdep 24 43 (by kernel_rfl)
          subst q1
          clear hB hdep
          refine goes_value (v := .bool false) ?_ hC rfl
          simp only [execOp, Act.eval, e0, e1]
          go_simp
        refine AllOps.cons ?_ ?_
        · intro aa W hC hB hdep
          refine .inl ⟨rfl, ?_⟩
          obtain ⟨x0, (q0 : x0 = .bool false), e0⟩ := hdep 25 44 (by kernel_rfl)
          subst q0
          clear hB hdep
          refine goes_value (v := .bool false) ?_ hC rfl
          simp only [execOp, Act.eval, e0]
          go_simp
        exact trivial
      · intro aa w8 hC hB hall
        have hv : ∀ p ∈ [((19 : Nat), (.pointer (some ⟨lb, 0, none⟩) : Value)), ((20 : Nat), (.pointer (some ⟨lb, 0, none⟩) : Value)), ((21 : Nat), (.pointer (some ⟨lb, 0, none⟩) : Value)), ((22 : Nat), (.pointer (some ⟨g, 0, none⟩) : Value)), ((23 : Nat), (.pointer (some ⟨w.heap.size, 2, none⟩) : Value)), ((24 : Nat), (.agg #[.int .i64 b.1, .int .i64 b.2] : Value)), ((25 : Nat), (.int .i64 kb : Value)), ((26 : Nat), (.int .i64 4 : Value)), ((27 : Nat), (.bool false : Value)), ((28 : Nat), (.bool false : Value)), ((29 : Nat), (undef : Value)), ((30 : Nat), (undef : Value)), ((31 : Nat), (undef : Value)), ((32 : Nat), (undef : Value)), ((33 : Nat), (undef : Value)), ((34 : Nat), (undef : Value)), ((35 : Nat), (undef : Value)), ((36 : Nat), (undef : Value)), ((37 : Nat), (undef : Value)), ((38 : Nat), (undef : Value)), ((39 : Nat), (undef : Value)), ((40 : Nat), (undef : Value)), ((41 : Nat), (undef : Value)), ((42 : Nat), (undef : Value)), ((43 : Nat), (undef : Value)), ((44 : Nat), (.bool false : Value)), ((4 : Nat), (.bool false : Value))], aa.tmps.getD p.1 undef = p.2 := by
          obtain ⟨_, (k0 : _ = _), e0⟩ := hall 0 _ rfl
          obtain ⟨_, (k1 : _ = _), e1⟩ := hall 1 _ rfl
          obtain ⟨_, (k2 : _ = _), e2⟩ := hall 2 _ rfl
          obtain ⟨_, (k3 : _ = _), e3⟩ := hall 3 _ rfl
          obtain ⟨_, (k4 : _ = _), e4⟩ := hall 4 _ rfl
          obtain ⟨_, (k5 : _ = _), e5⟩ := hall 5 _ rfl
          obtain ⟨_, (k6 : _ = _), e6⟩ := hall 6 _ rfl
          obtain ⟨_, (k7 : _ = _), e7⟩ := hall 7 _ rfl
          obtain ⟨_, (k8 : _ = _), e8⟩ := hall 8 _ rfl
          obtain ⟨_, (k9 : _ = _), e9⟩ := hall 9 _ rfl
          obtain ⟨_, (k10 : _ = _), e10⟩ := hall 10 _ rfl
          obtain ⟨_, (k11 : _ = _), e11⟩ := hall 11 _ rfl
          obtain ⟨_, (k12 : _ = _), e12⟩ := hall 12 _ rfl
          obtain ⟨_, (k13 : _ = _), e13⟩ := hall 13 _ rfl
          obtain ⟨_, (k14 : _ = _), e14⟩ := hall 14 _ rfl
          obtain ⟨_, (k15 : _ = _), e15⟩ := hall 15 _ rfl
          obtain ⟨_, (k16 : _ = _), e16⟩ := hall 16 _ rfl
          obtain ⟨_, (k17 : _ = _), e17⟩ := hall 17 _ rfl
          obtain ⟨_, (k18 : _ = _), e18⟩ := hall 18 _ rfl
          obtain ⟨_, (k19 : _ = _), e19⟩ := hall 19 _ rfl
          obtain ⟨_, (k20 : _ = _), e20⟩ := hall 20 _ rfl
          obtain ⟨_, (k21 : _ = _), e21⟩ := hall 21 _ rfl
          obtain ⟨_, (k22 : _ = _), e22⟩ := hall 22 _ rfl
          obtain ⟨_, (k23 : _ = _), e23⟩ := hall 23 _ rfl
          obtain ⟨_, (k24 : _ = _), e24⟩ := hall 24 _ rfl
          obtain ⟨_, (k25 : _ = _), e25⟩ := hall 25 _ rfl
          obtain ⟨_, (k26 : _ = _), e26⟩ := hall 26 _ rfl
          subst k0 k1 k2 k3 k4 k5 k6 k7 k8 k9 k10 k11 k12 k13 k14 k15 k16 k17 k18 k19 k20 k21 k22 k23 k24 k25 k26
          intro p hp
          simp only [List.mem_cons, List.not_mem_nil, or_false] at hp
          rcases hp with rfl | rfl | rfl | rfl | rfl | rfl | rfl | rfl | rfl | rfl | rfl | rfl | rfl | rfl | rfl | rfl | rfl | rfl | rfl | rfl | rfl | rfl | rfl | rfl | rfl | rfl | rfl
          · exact e0 _ rfl
          · exact e1 _ rfl
          · exact e2 _ rfl
          · exact e3 _ rfl
          · exact e4 _ rfl
          · exact e5 _ rfl
          · exact e6 _ rfl
          · exact e7 _ rfl
          · exact e8 _ rfl
          · exact e9 _ rfl
          · exact e10 _ rfl
          · exact e11 _ rfl
          · exact e12 _ rfl
          · exact e13 _ rfl
          · exact e14 _ rfl
          · exact e15 _ rfl
          · exact e16 _ rfl
          · exact e17 _ rfl
          · exact e18 _ rfl
          · exact e19 _ rfl
          · exact e20 _ rfl
          · exact e21 _ rfl
          · exact e22 _ rfl
          · exact e23 _ rfl
          · exact e24 _ rfl
          · exact e25 _ rfl
          · exact e26 _ rfl
        have hact := act_fold _ hB hv (by kernel_rfl)
        subst hact
        clear hv hall hB
        refine (‹∀ (a : Act) (w : World), Code.wp Try.prog _ _ a w → _›) _ w8 ?_
        simp only [List.foldl, List.setIfInBounds_toArray, List.set_cons_succ, List.set_cons_zero]
        go_wp2_with fail
        go_ret
        exact ⟨ret_bl (compA_kind (by rw [← HEKA.out, ← HEKB.out]; exact hkk)).symm, HB2.out.trans (hC.mono HB2.out.size)⟩

theorem comparable_any (g lb : Nat) (R : Nat → Nat) (s : St) (a b : Int × Int) (w : World) (h : StW w g R s) (hlb : lb < w.heap.size) (hc : w.cell? ⟨lb, 0, none⟩ = some (.pointer (some ⟨g, 0, none⟩))) :
    Calls Try.prog 84 #[.pointer (some ⟨lb, 0, none⟩), .agg #[.int .i64 a.1, .int .i64 a.2, .int .i64 b.1, .int .i64 b.2]] w fun e w' => e = .returned (.bool (s.compA a b)) ∧ Below w.heap.size w w' := by
  by_cases h1 : s.kind a = 1
  · exact comparable_1 g lb R s a b w h hlb hc h1
  by_cases h2 : s.kind a = 2
  · exact comparable_2 g lb R s a b w h hlb hc h2
  by_cases h3 : s.kind a = 3
  · exact comparable_3 g lb R s a b w h hlb hc h3
  by_cases h4 : s.kind a = 4
  · exact comparable_4 g lb R s a b w h hlb hc h4
  exact comparable_no g lb R s a b w h hlb hc (by omega)
end Go.Proofs.Ytimnhbndokfgnaa
