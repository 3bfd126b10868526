/- Wrap. -/
import Derived.Test.YtioidaojnbenbaaStCopied
namespace Go.Proofs.Ytioidaojnbenbaa
open Go.RowKit

/-- What Wrap answers, and what is there then. -/
def St.wrap (s : St) (p : Px) : ((Int × Int) × Int) × St := if s.L < s.U + pxW p then (((0, 0), 16), s) else (((7, (s.os.length : Nat)), 0), s.add ⟨10, pxW p, [], some p⟩)
theorem news2' {w : World} {a b : Obj} : ((w.alloc a).alloc b).heap[w.heap.size]? = some a ∧ ((w.alloc a).alloc b).heap[w.heap.size + 1]? = some b := by
  refine ⟨?_, ?_⟩
  · rw [Below.heap_alloc _ _ _ (by simp)]; exact heap_alloc_new w _
  · have := heap_alloc_new (w.alloc a) b
    simpa using this

set_option maxRecDepth 100000 in
set_option maxHeartbeats 8000000 in
theorem stwrap_any (g : Nat) (R : Nat → Nat) (s : St) (p : Px) (lv mv sv : Value) (ao : Option Addr) (ac : Nat) (w : World) (h : StW w g R s) (ht : p.t.size ≤ 281474976710656) (hl : RowV w lv p.lm.length 1 (ucs p.lm)) (ha : RowV w (.slice ao 0 ac) 0 8 []) (hm : RowV w mv p.ms.length 1 (ics .i64 p.ms)) (hs : RowV w sv p.sb.length 1 (ics .i64 p.sb)) (hll : p.lm.length ≤ 2000000) (hml : p.ms.length ≤ 2000000) (hsl : p.sb.length ≤ 2000000) :
    Calls Try.prog 14 #[.pointer (some ⟨g, 0, none⟩), .agg #[.int .i64 p.k, .string p.t, .bool p.ng, lv, .slice ao 0 ac, .int .i64 p.a, mv, sv]] w fun e w' => e = .returned (.tuple #[.agg #[.int .i64 (s.wrap p).1.1.1, .int .i64 (s.wrap p).1.1.2], .int .i64 (s.wrap p).1.2]) ∧ StP w g R (s.wrap p).2 w' := by
  have HL := Lib.hid hl
  have HA := Lib.hid ha
  have HM := Lib.hid hm
  have HS := Lib.hid hs
  have HST := Lib.hid h
  have HLN := Lib.hid (And.intro hll (And.intro hml hsl))
  have HTS := Lib.hid ht
  have hLM := h.ok.LM
  have hUL := h.ok.UL
  obtain ⟨lo, lc, hlv⟩ : ∃ a c, lv = .slice a p.lm.length c := by obtain ⟨_, _, a, c, e, _⟩ := hl; exact ⟨a, c, e⟩
  obtain ⟨mo, mc, hmv⟩ : ∃ a c, mv = .slice a p.ms.length c := by obtain ⟨_, _, a, c, e, _⟩ := hm; exact ⟨a, c, e⟩
  obtain ⟨so, sc, hsv⟩ : ∃ a c, sv = .slice a p.sb.length c := by obtain ⟨_, _, a, c, e, _⟩ := hs; exact ⟨a, c, e⟩
  obtain ⟨pc, hpc⟩ : ∃ n, n = pxW p := ⟨_, rfl⟩
  have HPC := Lib.hid hpc
  obtain ⟨ll, hll2⟩ : ∃ n, n = p.lm.length := ⟨_, rfl⟩
  obtain ⟨ml, hml2⟩ : ∃ n, n = p.ms.length := ⟨_, rfl⟩
  obtain ⟨sl, hsl2⟩ : ∃ n, n = p.sb.length := ⟨_, rfl⟩
  rw [← hll2] at hlv
  rw [← hml2] at hmv
  rw [← hsl2] at hsv
  subst hlv hmv hsv
  have HN := Lib.hid (And.intro hll2 (And.intro hml2 hsl2))
  have HPL : Hid (ll ≤ 2000000 ∧ ml ≤ 2000000 ∧ sl ≤ 2000000) := Lib.hid (by omega)
  clear hl ha hm hs hll hml hsl ht h hpc hll2 hml2 hsl2
  have HB1 := Lib.hid (below2 w (.cells #[.int .i64 p.k, .string p.t, .bool p.ng, .slice lo ll lc, .slice ao 0 ac, .int .i64 p.a, .slice mo ml mc, .slice so sl sc] 50) (.cells #[.int .i64 0, .int .i64 0] 35))
  have HN1 := Lib.hid (@news2' w (.cells #[.int .i64 p.k, .string p.t, .bool p.ng, .slice lo ll lc, .slice ao 0 ac, .int .i64 p.a, .slice mo ml mc, .slice so sl sc] 50) (.cells #[.int .i64 0, .int .i64 0] 35))
  go_enter Try.func14, Try.ntmps14
  go_upto_region 3 with fail
  generalize (w.alloc (.cells #[.int .i64 p.k, .string p.t, .bool p.ng, .slice lo ll lc, .slice ao 0 ac, .int .i64 p.a, .slice mo ml mc, .slice so sl sc] 50)).alloc (.cells #[.int .i64 0, .int .i64 0] 35) = w1 at *
  have R0 := Lib.hid HN1.out.1
  have R1 := Lib.hid HN1.out.2
  clear HN1
  have HC : Hid (∀ W, Below w1.heap.size w1 W → W.cell? ⟨g, 0, none⟩ = some (.int .i64 (s.L : Nat)) ∧ W.cell? ⟨g, 1, none⟩ = some (.int .i64 (s.U : Nat))) := Lib.hid fun W hW => by
    obtain ⟨_, _, _, _, h⟩ := HST.out.below (HB1.out.trans (hW.mono HB1.out.size))
    exact ⟨h.boxf.1, h.boxf.2.1⟩
  by_cases hf : s.L < s.U + pc
  · have HE : Hid (s.wrap p = (((0, 0), 16), s)) := Lib.hid (by unfold St.wrap; rw [← HPC.out, if_pos hf])
    refine wp_region_slotsG (psi [isV (.agg #[.int .i64 p.k, .string p.t, .bool p.ng, .slice lo ll lc, .slice ao 0 ac, .int .i64 p.a, .slice mo ml mc, .slice so sl sc]), isV (.pointer (some ⟨g, 0, none⟩)), isV (.int .i64 ((s.L : Int) - (s.U : Int))), isV (.tuple #[.int .i64 0, .bool false]), isV (.tuple #[.int .i64 0, .bool false]), isV (.int .i64 0), isV (.bool false), isV (.int .i64 0), isV (.bool false)]) (fun W => Below w1.heap.size w1 W) (by kernel_rfl) (Below.refl _ _).drew (psi_mono ?_) (by kernel_rfl) (by kernel_rfl) ?_ ?_
    · intro pq hp
      simp only [List.mem_cons, List.not_mem_nil, or_false] at hp
      (repeat' rcases hp with rfl | hp) <;> first | exact isV_stays _ | (subst hp; exact isV_stays _)
    · refine AllOps.cons ?_ ?_
      · intro ab W hC hB hdep
        refine .inl ⟨rfl, ?_⟩
        have b0 : ab.tmps.getD 3 undef = .pointer (some ⟨w.heap.size, 0, none⟩) := hB.off 3 (by kernel_rfl)
        obtain ⟨c0, c1, c2, c3, c4, c5, c6, c7⟩ := row8 ((hC.block _ (Array.getElem?_eq_some_iff.1 R0.out).1).trans R0.out)
        clear hB hdep
        refine goes_value (v := .agg #[.int .i64 p.k, .string p.t, .bool p.ng, .slice lo ll lc, .slice ao 0 ac, .int .i64 p.a, .slice mo ml mc, .slice so sl sc]) ?_ hC rfl
        simp only [execOp, Act.eval, b0]
        go_simp
      refine AllOps.cons ?_ ?_
      · intro ab W hC hB hdep
        refine .inl ⟨rfl, ?_⟩
        have b0 : ab.tmps.getD 0 undef = .pointer (some ⟨g, 0, none⟩) := hB.off 0 (by kernel_rfl)
        clear hB hdep
        refine goes_value (v := .pointer (some ⟨g, 0, none⟩)) ?_ hC rfl
        simp only [execOp, Act.eval, b0]
        go_simp
      refine AllOps.cons ?_ ?_
      · intro ab W hC hB hdep
        refine .inl ⟨rfl, ?_⟩
        obtain ⟨x0, (q0 : (isV (.pointer (some ⟨g, 0, none⟩))) x0 W), e0⟩ := hdep 1 14 (by kernel_rfl)
        obtain rfl : x0 = .pointer (some ⟨g, 0, none⟩) := q0
        clear hB hdep
        refine goes_call (f := 45) (args := #[.pointer (some ⟨g, 0, none⟩)]) ?_ ?_
        · simp only [execOp]
          go_simp
        · obtain ⟨hc0, hc1⟩ := HC.out W hC
          exact (stroom_any g s.L s.U W hLM (by omega) hc0 hc1).mono fun e w7 hp => by
            obtain ⟨rfl, nd, rfl⟩ := hp
            exact ⟨_, rfl, below_drewN hC _, below_drewN (Below.refl _ _) _, rfl⟩
      refine AllOps.cons ?_ ?_
      · intro ab W hC hB hdep
        refine .inl ⟨rfl, ?_⟩
        obtain ⟨x0, (q0 : (isV (.agg #[.int .i64 p.k, .string p.t, .bool p.ng, .slice lo ll lc, .slice ao 0 ac, .int .i64 p.a, .slice mo ml mc, .slice so sl sc])) x0 W), e0⟩ := hdep 0 13 (by kernel_rfl)
        obtain rfl : x0 = .agg #[.int .i64 p.k, .string p.t, .bool p.ng, .slice lo ll lc, .slice ao 0 ac, .int .i64 p.a, .slice mo ml mc, .slice so sl sc] := q0
        obtain ⟨x1, (q1 : (isV (.int .i64 ((s.L : Int) - (s.U : Int)))) x1 W), e1⟩ := hdep 2 15 (by kernel_rfl)
        obtain rfl : x1 = .int .i64 ((s.L : Int) - (s.U : Int)) := q1
        clear hB hdep
        refine goes_call (f := 48) (args := #[.agg #[.int .i64 p.k, .string p.t, .bool p.ng, .slice lo ll lc, .slice ao 0 ac, .int .i64 p.a, .slice mo ml mc, .slice so sl sc], .int .i64 ((s.L : Int) - (s.U : Int))]) ?_ ?_
        · simp only [execOp]
          go_simp
        · exact (stweigh_any p lo ao mo so ll lc ac ml mc sl sc ((s.L : Int) - (s.U : Int)) W HN.out.1 HN.out.2.1 HN.out.2.2 HPL.out.1 HPL.out.2.1 HPL.out.2.2).mono fun e w7 ⟨he, hb⟩ => by
            rw [← HPC.out] at he
            rcases he with ⟨hle, he⟩ | ⟨hle, he⟩
            · exact absurd hle (by omega)
            · exact ⟨_, he, hC.trans (hb.mono hC.size), hb, rfl⟩
      refine AllOps.cons ?_ ?_
      · intro ab W hC hB hdep
        refine .inl ⟨rfl, ?_⟩
        obtain ⟨x0, (q0 : (isV (.tuple #[.int .i64 0, .bool false])) x0 W), e0⟩ := hdep 3 16 (by kernel_rfl)
        obtain rfl : x0 = .tuple #[.int .i64 0, .bool false] := q0
        clear hB hdep
        refine goes_value (v := .tuple #[.int .i64 0, .bool false]) ?_ hC rfl
        simp only [execOp, Act.eval, e0]
        go_simp
      refine AllOps.cons ?_ ?_
      · intro ab W hC hB hdep
        refine .inl ⟨rfl, ?_⟩
        obtain ⟨x0, (q0 : (isV (.tuple #[.int .i64 0, .bool false])) x0 W), e0⟩ := hdep 4 12 (by kernel_rfl)
        obtain rfl : x0 = .tuple #[.int .i64 0, .bool false] := q0
        clear hB hdep
        refine goes_value (v := .int .i64 0) ?_ hC rfl
        simp only [execOp, Act.eval, e0]
        go_simp
      refine AllOps.cons ?_ ?_
      · intro ab W hC hB hdep
        refine .inl ⟨rfl, ?_⟩
        obtain ⟨x0, (q0 : (isV (.tuple #[.int .i64 0, .bool false])) x0 W), e0⟩ := hdep 4 12 (by kernel_rfl)
        obtain rfl : x0 = .tuple #[.int .i64 0, .bool false] := q0
        clear hB hdep
        refine goes_value (v := .bool false) ?_ hC rfl
        simp only [execOp, Act.eval, e0]
        go_simp
      refine AllOps.cons ?_ ?_
      · intro ab W hC hB hdep
        refine .inl ⟨rfl, ?_⟩
        obtain ⟨x0, (q0 : (isV (.int .i64 0)) x0 W), e0⟩ := hdep 5 17 (by kernel_rfl)
        obtain rfl : x0 = .int .i64 0 := q0
        clear hB hdep
        refine goes_value (v := .int .i64 0) ?_ hC rfl
        simp only [execOp, Act.eval, e0]
        go_simp
      refine AllOps.cons ?_ ?_
      · intro ab W hC hB hdep
        refine .inl ⟨rfl, ?_⟩
        obtain ⟨x0, (q0 : (isV (.bool false)) x0 W), e0⟩ := hdep 6 18 (by kernel_rfl)
        obtain rfl : x0 = .bool false := q0
        clear hB hdep
        refine goes_value (v := .bool false) ?_ hC rfl
        simp only [execOp, Act.eval, e0]
        go_simp
      exact trivial
    · intro aa w2 hC hB hall
      obtain ⟨v0, (k0 : v0 = .agg #[.int .i64 p.k, .string p.t, .bool p.ng, .slice lo ll lc, .slice ao 0 ac, .int .i64 p.a, .slice mo ml mc, .slice so sl sc]), e0⟩ := hall 0 _ rfl
      obtain ⟨v1, (k1 : v1 = .pointer (some ⟨g, 0, none⟩)), e1⟩ := hall 1 _ rfl
      obtain ⟨v2, (k2 : v2 = .int .i64 ((s.L : Int) - (s.U : Int))), e2⟩ := hall 2 _ rfl
      obtain ⟨v3, (k3 : v3 = .tuple #[.int .i64 0, .bool false]), e3⟩ := hall 3 _ rfl
      obtain ⟨v4, (k4 : v4 = .tuple #[.int .i64 0, .bool false]), e4⟩ := hall 4 _ rfl
      obtain ⟨v5, (k5 : v5 = .int .i64 0), e5⟩ := hall 5 _ rfl
      obtain ⟨v6, (k6 : v6 = .bool false), e6⟩ := hall 6 _ rfl
      obtain ⟨v7, (k7 : v7 = .int .i64 0), e7⟩ := hall 7 _ rfl
      obtain ⟨v8, (k8 : v8 = .bool false), e8⟩ := hall 8 _ rfl
      subst k0 k1 k2 k3 k4 k5 k6 k7 k8
      have hv : ∀ pq ∈ [((13 : Nat), (.agg #[.int .i64 p.k, .string p.t, .bool p.ng, .slice lo ll lc, .slice ao 0 ac, .int .i64 p.a, .slice mo ml mc, .slice so sl sc] : Value)), ((14 : Nat), (.pointer (some ⟨g, 0, none⟩) : Value)), ((15 : Nat), (.int .i64 ((s.L : Int) - (s.U : Int)) : Value)), ((16 : Nat), (.tuple #[.int .i64 0, .bool false] : Value)), ((12 : Nat), (.tuple #[.int .i64 0, .bool false] : Value)), ((17 : Nat), (.int .i64 0 : Value)), ((18 : Nat), (.bool false : Value)), ((6 : Nat), (.int .i64 0 : Value)), ((7 : Nat), (.bool false : Value))], aa.tmps.getD pq.1 undef = pq.2 := by
        intro pq hp
        simp only [List.mem_cons, List.not_mem_nil, or_false] at hp
        rcases hp with rfl | rfl | rfl | rfl | rfl | rfl | rfl | rfl | rfl
        · exact e0 _ rfl
        · exact e1 _ rfl
        · exact e2 _ rfl
        · exact e3 _ rfl
        · exact e4 _ rfl
        · exact e5 _ rfl
        · exact e6 _ rfl
        · exact e7 _ rfl
        · exact e8 _ rfl
      have hact := act_fold _ hB hv (by kernel_rfl)
      subst hact
      clear hv hall hB e0 e1 e2 e3 e4 e5 e6 e7 e8
      refine (‹∀ (a : Act) (w : World), Code.wp Try.prog _ _ a w → _›) _ w2 ?_
      simp only [List.foldl, List.setIfInBounds_toArray, List.set_cons_succ, List.set_cons_zero]
      have r1 := (hC.block _ (Array.getElem?_eq_some_iff.1 R1.out).1).trans R1.out
      have HB2 := Lib.hid (HB1.out.trans (hC.mono HB1.out.size))
      obtain ⟨p0, p1, z0, z1⟩ := row2 r1
      go_wp2_with fail
      rw [HE.out]
      refine bodyPost_ret (v := .tuple #[.agg #[.int .i64 0, .int .i64 0], .int .i64 16]) (by simp [results, Try.results14, go_sem, p0, p1]) rfl ⟨rfl, R, HST.out.below ((HB2.out.setCell (by simp) _).setCell (by simp) _), Fr.of_below ((HB2.out.setCell (by simp) _).setCell (by simp) _), fun _ _ => Iff.rfl⟩
  · have HE : Hid (s.wrap p = (((7, ((s.os.length : Nat) : Int)), 0), s.add ⟨10, pc, [], some p⟩)) := Lib.hid (by unfold St.wrap; rw [← HPC.out, if_neg hf])
    refine wp_region_slotsG (psi [isV (.agg #[.int .i64 p.k, .string p.t, .bool p.ng, .slice lo ll lc, .slice ao 0 ac, .int .i64 p.a, .slice mo ml mc, .slice so sl sc]), isV (.pointer (some ⟨g, 0, none⟩)), isV (.int .i64 ((s.L : Int) - (s.U : Int))), isV (.tuple #[.int .i64 (pc : Nat), .bool true]), isV (.tuple #[.int .i64 (pc : Nat), .bool true]), isV (.int .i64 (pc : Nat)), isV (.bool true), isV (.int .i64 (pc : Nat)), isV (.bool true)]) (fun W => Below w1.heap.size w1 W) (by kernel_rfl) (Below.refl _ _).drew (psi_mono ?_) (by kernel_rfl) (by kernel_rfl) ?_ ?_
    · intro pq hp
      simp only [List.mem_cons, List.not_mem_nil, or_false] at hp
      (repeat' rcases hp with rfl | hp) <;> first | exact isV_stays _ | (subst hp; exact isV_stays _)
    · refine AllOps.cons ?_ ?_
      · intro ab W hC hB hdep
        refine .inl ⟨rfl, ?_⟩
        have b0 : ab.tmps.getD 3 undef = .pointer (some ⟨w.heap.size, 0, none⟩) := hB.off 3 (by kernel_rfl)
        obtain ⟨c0, c1, c2, c3, c4, c5, c6, c7⟩ := row8 ((hC.block _ (Array.getElem?_eq_some_iff.1 R0.out).1).trans R0.out)
        clear hB hdep
        refine goes_value (v := .agg #[.int .i64 p.k, .string p.t, .bool p.ng, .slice lo ll lc, .slice ao 0 ac, .int .i64 p.a, .slice mo ml mc, .slice so sl sc]) ?_ hC rfl
        simp only [execOp, Act.eval, b0]
        go_simp
      refine AllOps.cons ?_ ?_
      · intro ab W hC hB hdep
        refine .inl ⟨rfl, ?_⟩
        have b0 : ab.tmps.getD 0 undef = .pointer (some ⟨g, 0, none⟩) := hB.off 0 (by kernel_rfl)
        clear hB hdep
        refine goes_value (v := .pointer (some ⟨g, 0, none⟩)) ?_ hC rfl
        simp only [execOp, Act.eval, b0]
        go_simp
      refine AllOps.cons ?_ ?_
      · intro ab W hC hB hdep
        refine .inl ⟨rfl, ?_⟩
        obtain ⟨x0, (q0 : (isV (.pointer (some ⟨g, 0, none⟩))) x0 W), e0⟩ := hdep 1 14 (by kernel_rfl)
        obtain rfl : x0 = .pointer (some ⟨g, 0, none⟩) := q0
        clear hB hdep
        refine goes_call (f := 45) (args := #[.pointer (some ⟨g, 0, none⟩)]) ?_ ?_
        · simp only [execOp]
          go_simp
        · obtain ⟨hc0, hc1⟩ := HC.out W hC
          exact (stroom_any g s.L s.U W hLM (by omega) hc0 hc1).mono fun e w7 hp => by
            obtain ⟨rfl, nd, rfl⟩ := hp
            exact ⟨_, rfl, below_drewN hC _, below_drewN (Below.refl _ _) _, rfl⟩
      refine AllOps.cons ?_ ?_
      · intro ab W hC hB hdep
        refine .inl ⟨rfl, ?_⟩
        obtain ⟨x0, (q0 : (isV (.agg #[.int .i64 p.k, .string p.t, .bool p.ng, .slice lo ll lc, .slice ao 0 ac, .int .i64 p.a, .slice mo ml mc, .slice so sl sc])) x0 W), e0⟩ := hdep 0 13 (by kernel_rfl)
        obtain rfl : x0 = .agg #[.int .i64 p.k, .string p.t, .bool p.ng, .slice lo ll lc, .slice ao 0 ac, .int .i64 p.a, .slice mo ml mc, .slice so sl sc] := q0
        obtain ⟨x1, (q1 : (isV (.int .i64 ((s.L : Int) - (s.U : Int)))) x1 W), e1⟩ := hdep 2 15 (by kernel_rfl)
        obtain rfl : x1 = .int .i64 ((s.L : Int) - (s.U : Int)) := q1
        clear hB hdep
        refine goes_call (f := 48) (args := #[.agg #[.int .i64 p.k, .string p.t, .bool p.ng, .slice lo ll lc, .slice ao 0 ac, .int .i64 p.a, .slice mo ml mc, .slice so sl sc], .int .i64 ((s.L : Int) - (s.U : Int))]) ?_ ?_
        · simp only [execOp]
          go_simp
        · exact (stweigh_any p lo ao mo so ll lc ac ml mc sl sc ((s.L : Int) - (s.U : Int)) W HN.out.1 HN.out.2.1 HN.out.2.2 HPL.out.1 HPL.out.2.1 HPL.out.2.2).mono fun e w7 ⟨he, hb⟩ => by
            rw [← HPC.out] at he
            rcases he with ⟨hle, he⟩ | ⟨hle, he⟩
            · exact ⟨_, he, hC.trans (hb.mono hC.size), hb, rfl⟩
            · exact absurd hle (by omega)
      refine AllOps.cons ?_ ?_
      · intro ab W hC hB hdep
        refine .inl ⟨rfl, ?_⟩
        obtain ⟨x0, (q0 : (isV (.tuple #[.int .i64 (pc : Nat), .bool true])) x0 W), e0⟩ := hdep 3 16 (by kernel_rfl)
        obtain rfl : x0 = .tuple #[.int .i64 (pc : Nat), .bool true] := q0
        clear hB hdep
        refine goes_value (v := .tuple #[.int .i64 (pc : Nat), .bool true]) ?_ hC rfl
        simp only [execOp, Act.eval, e0]
        go_simp
      refine AllOps.cons ?_ ?_
      · intro ab W hC hB hdep
        refine .inl ⟨rfl, ?_⟩
        obtain ⟨x0, (q0 : (isV (.tuple #[.int .i64 (pc : Nat), .bool true])) x0 W), e0⟩ := hdep 4 12 (by kernel_rfl)
        obtain rfl : x0 = .tuple #[.int .i64 (pc : Nat), .bool true] := q0
        clear hB hdep
        refine goes_value (v := .int .i64 (pc : Nat)) ?_ hC rfl
        simp only [execOp, Act.eval, e0]
        go_simp
      refine AllOps.cons ?_ ?_
      · intro ab W hC hB hdep
        refine .inl ⟨rfl, ?_⟩
        obtain ⟨x0, (q0 : (isV (.tuple #[.int .i64 (pc : Nat), .bool true])) x0 W), e0⟩ := hdep 4 12 (by kernel_rfl)
        obtain rfl : x0 = .tuple #[.int .i64 (pc : Nat), .bool true] := q0
        clear hB hdep
        refine goes_value (v := .bool true) ?_ hC rfl
        simp only [execOp, Act.eval, e0]
        go_simp
      refine AllOps.cons ?_ ?_
      · intro ab W hC hB hdep
        refine .inl ⟨rfl, ?_⟩
        obtain ⟨x0, (q0 : (isV (.int .i64 (pc : Nat))) x0 W), e0⟩ := hdep 5 17 (by kernel_rfl)
        obtain rfl : x0 = .int .i64 (pc : Nat) := q0
        clear hB hdep
        refine goes_value (v := .int .i64 (pc : Nat)) ?_ hC rfl
        simp only [execOp, Act.eval, e0]
        go_simp
      refine AllOps.cons ?_ ?_
      · intro ab W hC hB hdep
        refine .inl ⟨rfl, ?_⟩
        obtain ⟨x0, (q0 : (isV (.bool true)) x0 W), e0⟩ := hdep 6 18 (by kernel_rfl)
        obtain rfl : x0 = .bool true := q0
        clear hB hdep
        refine goes_value (v := .bool true) ?_ hC rfl
        simp only [execOp, Act.eval, e0]
        go_simp
      exact trivial
    · intro aa w2 hC hB hall
      obtain ⟨v0, (k0 : v0 = .agg #[.int .i64 p.k, .string p.t, .bool p.ng, .slice lo ll lc, .slice ao 0 ac, .int .i64 p.a, .slice mo ml mc, .slice so sl sc]), e0⟩ := hall 0 _ rfl
      obtain ⟨v1, (k1 : v1 = .pointer (some ⟨g, 0, none⟩)), e1⟩ := hall 1 _ rfl
      obtain ⟨v2, (k2 : v2 = .int .i64 ((s.L : Int) - (s.U : Int))), e2⟩ := hall 2 _ rfl
      obtain ⟨v3, (k3 : v3 = .tuple #[.int .i64 (pc : Nat), .bool true]), e3⟩ := hall 3 _ rfl
      obtain ⟨v4, (k4 : v4 = .tuple #[.int .i64 (pc : Nat), .bool true]), e4⟩ := hall 4 _ rfl
      obtain ⟨v5, (k5 : v5 = .int .i64 (pc : Nat)), e5⟩ := hall 5 _ rfl
      obtain ⟨v6, (k6 : v6 = .bool true), e6⟩ := hall 6 _ rfl
      obtain ⟨v7, (k7 : v7 = .int .i64 (pc : Nat)), e7⟩ := hall 7 _ rfl
      obtain ⟨v8, (k8 : v8 = .bool true), e8⟩ := hall 8 _ rfl
      subst k0 k1 k2 k3 k4 k5 k6 k7 k8
      have hv : ∀ pq ∈ [((13 : Nat), (.agg #[.int .i64 p.k, .string p.t, .bool p.ng, .slice lo ll lc, .slice ao 0 ac, .int .i64 p.a, .slice mo ml mc, .slice so sl sc] : Value)), ((14 : Nat), (.pointer (some ⟨g, 0, none⟩) : Value)), ((15 : Nat), (.int .i64 ((s.L : Int) - (s.U : Int)) : Value)), ((16 : Nat), (.tuple #[.int .i64 (pc : Nat), .bool true] : Value)), ((12 : Nat), (.tuple #[.int .i64 (pc : Nat), .bool true] : Value)), ((17 : Nat), (.int .i64 (pc : Nat) : Value)), ((18 : Nat), (.bool true : Value)), ((6 : Nat), (.int .i64 (pc : Nat) : Value)), ((7 : Nat), (.bool true : Value))], aa.tmps.getD pq.1 undef = pq.2 := by
        intro pq hp
        simp only [List.mem_cons, List.not_mem_nil, or_false] at hp
        rcases hp with rfl | rfl | rfl | rfl | rfl | rfl | rfl | rfl | rfl
        · exact e0 _ rfl
        · exact e1 _ rfl
        · exact e2 _ rfl
        · exact e3 _ rfl
        · exact e4 _ rfl
        · exact e5 _ rfl
        · exact e6 _ rfl
        · exact e7 _ rfl
        · exact e8 _ rfl
      have hact := act_fold _ hB hv (by kernel_rfl)
      subst hact
      clear hv hall hB e0 e1 e2 e3 e4 e5 e6 e7 e8
      refine (‹∀ (a : Act) (w : World), Code.wp Try.prog _ _ a w → _›) _ w2 ?_
      simp only [List.foldl, List.setIfInBounds_toArray, List.set_cons_succ, List.set_cons_zero]
      have HB2 := Lib.hid (HB1.out.trans (hC.mono HB1.out.size))
      have S0 := Lib.hid ((hC.block _ (Array.getElem?_eq_some_iff.1 R0.out).1).trans R0.out)
      have S1 := Lib.hid ((hC.block _ (Array.getElem?_eq_some_iff.1 R1.out).1).trans R1.out)
      clear hC R0 R1 HB1
      obtain ⟨c0, c1, c2, c3, c4, c5, c6, c7⟩ := row8 S0.out
      go_wp2_with fail
      refine (stcopied_any p _ _ _ ao ac w2 HTS.out (HL.out.below HB2.out) (HA.out.below HB2.out) (HM.out.below HB2.out) (HS.out.below HB2.out) HLN.out.1 HLN.out.2.1 HLN.out.2.2).mono ?_
      rintro e w3 ⟨⟨lv2, o2, k2, mv2, sv2, rfl, hol, hox, hom, hos⟩, hb3⟩
      obtain ⟨l2, lc2, rfl⟩ := own_dslice hol
      obtain ⟨m2, mc2, rfl⟩ := own_dslice hom
      obtain ⟨s2, sc2, rfl⟩ := own_dslice hos
      have HB3 := Lib.hid (HB2.out.trans (hb3.mono HB2.out.size))
      have T1 := Lib.hid ((hb3.block _ (Array.getElem?_eq_some_iff.1 S1.out).1).trans S1.out)
      have HSZ : Hid (w.heap.size + 2 ≤ w2.heap.size ∧ w2.heap.size ≤ w3.heap.size) := Lib.hid ⟨(Array.getElem?_eq_some_iff.1 S1.out).1, hb3.size⟩
      have HOL := Lib.hid hol
      have HOX := Lib.hid hox
      have HOM := Lib.hid hom
      have HOS := Lib.hid hos
      have hal := below1 w3 (.cells #[.int .i64 p.k, .string p.t, .bool p.ng, .slice l2 p.lm.length lc2, .slice o2 0 k2, .int .i64 p.a, .slice m2 p.ms.length mc2, .slice s2 p.sb.length sc2] 50)
      have HB4 := Lib.hid (HB3.out.trans (hal.mono HB3.out.size))
      have U1 := Lib.hid ((hal.block _ (Array.getElem?_eq_some_iff.1 T1.out).1).trans T1.out)
      have UB := Lib.hid (heap_alloc_new w3 (.cells #[.int .i64 p.k, .string p.t, .bool p.ng, .slice l2 p.lm.length lc2, .slice o2 0 k2, .int .i64 p.a, .slice m2 p.ms.length mc2, .slice s2 p.sb.length sc2] 50))
      have UL := Lib.hid (ownsRow_keep HOL.out (Keeps.of_below (P := fun _ => True) hal) fun _ _ => trivial)
      have UX := Lib.hid (HOX.out.below hal)
      have UM := Lib.hid (ownsRow_keep HOM.out (Keeps.of_below (P := fun _ => True) hal) fun _ _ => trivial)
      have US := Lib.hid (ownsRow_keep HOS.out (Keeps.of_below (P := fun _ => True) hal) fun _ _ => trivial)
      clear hb3 hol hox hom hos hal S0 S1 T1 HB2 HB3 HOL HOX HOM HOS c0 c1 c2 c3 c4 c5 c6 c7
      go_upto_region 7 with fail
      generalize w3.alloc (.cells #[.int .i64 p.k, .string p.t, .bool p.ng, .slice l2 p.lm.length lc2, .slice o2 0 k2, .int .i64 p.a, .slice m2 p.ms.length mc2, .slice s2 p.sb.length sc2] 50) = w4 at *
      obtain ⟨ms, ov, nv, mv, hm4⟩ := HST.out.below HB4.out
      have HM4 := Lib.hid hm4
      have HLT := Lib.hid HST.out.lt
      clear hm4
      go_wp2_with fail
      have hz : ∀ b, w.heap.size ≤ b → R b = 0 := fun b hb => Classical.byContradiction fun hn => by have := HLT.out b hn; omega
      have hbg : w3.heap.size < w4.heap.size := (Array.getElem?_eq_some_iff.1 UB.out).1
      have hpx : PxAt (fun b => w2.heap.size ≤ b ∧ b < w4.heap.size) w4 (.pointer (some ⟨w3.heap.size, 0, none⟩)) (some p) := by
        refine ⟨w3.heap.size, _, _, _, _, rfl, ⟨HSZ.out.2, hbg⟩, UB.out, RowV.of_own UL.out, ?_, UX.out, RowV.of_own UM.out, ?_, RowV.of_own US.out, ?_⟩
        · intro b _ hb; exact UL.out.lt b hb
        · intro b _ hb; exact UM.out.lt b hb
        · intro b _ hb; exact US.out.lt b hb
      have HZ := Lib.hid hz
      have HPX := Lib.hid hpx
      clear hz hpx
      refine (stput_any g R s ms ov nv mv ⟨⟨10, pc, [], some p⟩, .slice none 0 0, .pointer (some ⟨w3.heap.size, 0, none⟩)⟩ (fun b => w2.heap.size ≤ b ∧ b < w4.heap.size) _ HM4.out (World.ownsRow_nil _ _ _ _) (fun b hb => by cases hb) HPX.out (fun b hb => ⟨HZ.out b (by have := HSZ.out; omega), hb.2⟩) (by show 0 + 1 ≤ pc; rw [HPC.out]; unfold pxW; omega) (by show s.U + pc ≤ s.L; omega) rfl).mono ?_
      rintro e w5 ⟨he, R', hst, hfr, hr1, hr2⟩
      unfold vV at he
      simp only at he
      subst he
      have hR1 : R (w.heap.size + 1) = 0 := HZ.out _ (by omega)
      have hX5 := (hfr.blk (w.heap.size + 1) (Array.getElem?_eq_some_iff.1 U1.out).1 hR1).trans U1.out
      have HST5 := Lib.hid hst
      have HFR := Lib.hid ((Fr.of_below (R := R) HB4.out).tr hfr)
      have HR2 : Hid (∀ b, b < w.heap.size + 2 → (R' b = 0 ↔ R b = 0)) := Lib.hid fun b hb => by
        constructor
        · intro h0
          exact Classical.byContradiction fun hn => by rw [hr1 b hn] at h0; exact hn h0
        · intro h0
          refine Classical.byContradiction fun hn => ?_
          rcases hr2 b hn with h | h | h | h
          · exact h h0
          · cases h
          · have := HSZ.out; omega
          · have := HSZ.out; omega
      obtain ⟨p0, p1, z0, z1⟩ := row2 hX5
      clear hX5 hst hfr hr1 hr2
      go_wp2_with fail
      rw [HE.out]
      have hRz : R' (w.heap.size + 1) = 0 := (HR2.out _ (by omega)).2 hR1
      refine bodyPost_ret (v := .tuple #[.agg #[.int .i64 7, .int .i64 ((s.os.length : Nat) : Int)], .int .i64 0]) (by simp [results, Try.results14, go_sem, p0, p1]) rfl ⟨rfl, R', HST5.out.keep (((Keeps.refl (fun b => R' b ≠ 0) _).set (p := ⟨w.heap.size + 1, 0, none⟩) (fun h => h hRz) _).set (p := ⟨w.heap.size + 1, 1, none⟩) (fun h => h hRz) _), (HFR.out.set (p := ⟨w.heap.size + 1, 0, none⟩) (.inl (by simp)) _).set (p := ⟨w.heap.size + 1, 1, none⟩) (.inl (by simp)) _, fun b hb => HR2.out b (by omega)⟩
end Go.Proofs.Ytioidaojnbenbaa
