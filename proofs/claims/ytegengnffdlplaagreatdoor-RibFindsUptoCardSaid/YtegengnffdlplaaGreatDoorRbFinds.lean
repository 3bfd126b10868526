/- RibFinds: what identifiers mean, behind any bindings, and which mean the same. -/
import Derived.Test.YtegengnffdlplaaGreatDoorRbBuilt
import Derived.Test.YtegengnffdlplaaGreatDoorRbBound
namespace Go.Proofs.YtegengnffdlplaaGreatDoor
open Go.RowKit

set_option maxRecDepth 100000 in
set_option maxHeartbeats 16000000 in
theorem ribfinds_any (z0 : Int) (v : Value) (l : List LEn) (us0 : List Value) (A B : Sx) (us vs : List Value) (w : World) (hv : RowV w v l.length 10 us0) (hin : ∀ (i : Nat) (h : i < l.length), LeAt w (l[i]'h) ((us0.drop (i * 10)).take 10)) (hsm : ∀ (i : Nat) (h : i < l.length), SmS 1100000 (l[i]'h).d) (hrg : ∀ (i : Nat) (h : i < l.length), Rg (l[i]'h).d.m) (ha : SLay w A us) (hx : SLay w B vs) (hsa : SmS 1100000 A) (hsb : SmS 1100000 B) (hra : Rg A.m) (hrx : Rg B.m) (ht : Tabs w) (h0 : 0 ≤ z0) (h1 : z0 ≤ 255) :
    Calls Tryz.prog 3 #[.int .u8 z0, v, .agg us.toArray, .agg vs.toArray] w fun e w' => e = .returned (.bool true) ∧ Below w.heap.size w w' := by
  have HA := Lib.hid ha
  have HX := Lib.hid hx
  have HSA := Lib.hid hsa
  have HSB := Lib.hid hsb
  have HRA := Lib.hid hra
  have HRX := Lib.hid hrx
  have HT := Lib.hid ht
  have HV := Lib.hid hv
  have HIN := Lib.hid hin
  have HSM := Lib.hid hsm
  have HRG := Lib.hid hrg
  obtain ⟨vo, vc, rfl⟩ : ∃ o c, v = .slice o l.length c := by obtain ⟨_, _, o, c, h, _⟩ := hv; exact ⟨o, c, h⟩
  obtain ⟨kx, tx, nx, xo, xn, xc, yo, yn, yc, ax, po, pn, pc, qo, qn, qc, rfl⟩ := sx_shapes ha
  obtain ⟨kx', tx', nx', xo', xn', xc', yo', yn', yc', ax', po', pn', pc', qo', qn', qc', rfl⟩ := sx_shapes hx
  clear ha hx hsa hsb hra hrx ht hv hin hsm hrg
  have hb1 := (below1 w (.cells #[.int .i64 kx, .string tx, .bool nx, .slice xo xn xc, .slice yo yn yc, .int .i64 ax, .slice po pn pc, .slice qo qn qc] 29)).trans ((below1 (w.alloc (.cells #[.int .i64 kx, .string tx, .bool nx, .slice xo xn xc, .slice yo yn yc, .int .i64 ax, .slice po pn pc, .slice qo qn qc] 29)) (.cells #[.int .i64 kx', .string tx', .bool nx', .slice xo' xn' xc', .slice yo' yn' yc', .int .i64 ax', .slice po' pn' pc', .slice qo' qn' qc'] 29)).mono (by simp))
  have hn1 := @newsw2 w (.cells #[.int .i64 kx, .string tx, .bool nx, .slice xo xn xc, .slice yo yn yc, .int .i64 ax, .slice po pn pc, .slice qo qn qc] 29) (.cells #[.int .i64 kx', .string tx', .bool nx', .slice xo' xn' xc', .slice yo' yn' yc', .int .i64 ax', .slice po' pn' pc', .slice qo' qn' qc'] 29)
  show Calls Tryz.prog 3 #[.int .u8 z0, .slice vo l.length vc, .agg #[.int .i64 kx, .string tx, .bool nx, .slice xo xn xc, .slice yo yn yc, .int .i64 ax, .slice po pn pc, .slice qo qn qc], .agg #[.int .i64 kx', .string tx', .bool nx', .slice xo' xn' xc', .slice yo' yn' yc', .int .i64 ax', .slice po' pn' pc', .slice qo' qn' qc']] w _
  go_enter Tryz.func3, Tryz.ntmps3
  go_upto_region 1 with fail
  generalize (w.alloc (.cells #[.int .i64 kx, .string tx, .bool nx, .slice xo xn xc, .slice yo yn yc, .int .i64 ax, .slice po pn pc, .slice qo qn qc] 29)).alloc (.cells #[.int .i64 kx', .string tx', .bool nx', .slice xo' xn' xc', .slice yo' yn' yc', .int .i64 ax', .slice po' pn' pc', .slice qo' qn' qc'] 29) = w1 at *
  have HB1 := Lib.hid hb1
  have HN1 := Lib.hid hn1.1
  have HM1 := Lib.hid hn1.2
  clear hb1 hn1
  obtain ⟨n, hbu⟩ := built_any z0 _ l us0 w1 (HV.out.below HB1.out) (fun i h => (HIN.out i h).keep HB1.out) HSM.out HRG.out (HT.out.below HB1.out (Nat.le_refl _)) h0 h1
  have HBU := Lib.hid hbu
  clear hbu
  go_wp2_with fail
  refine HBU.out.mono ?_
  rintro e w2 ⟨g, m, tk, es, rfl, hz, hel⟩
  have HZ2 := Lib.hid hz
  have HEL : Hid (es.length ≤ 1000) := Lib.hid (by omega)
  have HN2 := Lib.hid ((hz.bel.block _ (Array.getElem?_eq_some_iff.1 HN1.out).1).trans HN1.out)
  have HM2 := Lib.hid ((hz.bel.block _ (Array.getElem?_eq_some_iff.1 HM1.out).1).trans HM1.out)
  have HB2 := Lib.hid (HB1.out.trans (hz.bel.mono HB1.out.size))
  clear hz hel HBU
  obtain ⟨c0, c1, c2, c3, c4, c5, c6, c7⟩ := rowS8 HN2.out
  obtain ⟨f0, f1, f2, f3, f4, f5, f6, f7⟩ := rowS8 HM2.out
  go_wp2_with fail
  refine (answers11_any w2 (HT.out.below HB2.out (Nat.le_refl _))).mono ?_
  rintro e w3 ⟨rfl, hb⟩
  have HN3 := Lib.hid ((hb.block _ (Array.getElem?_eq_some_iff.1 HN2.out).1).trans HN2.out)
  have HM3 := Lib.hid ((hb.block _ (Array.getElem?_eq_some_iff.1 HM2.out).1).trans HM2.out)
  have HB3 := Lib.hid (HB2.out.trans (hb.mono HB2.out.size))
  have HZ3 := Lib.hid (HZ2.out.below hb)
  clear hb c0 c1 c2 c3 c4 c5 c6 c7 f0 f1 f2 f3 f4 f5 f6 f7
  obtain ⟨c0, c1, c2, c3, c4, c5, c6, c7⟩ := rowS8 HN3.out
  obtain ⟨f0, f1, f2, f3, f4, f5, f6, f7⟩ := rowS8 HM3.out
  go_wp2_with fail
  refine (light11_any A _ w3 (HA.out.keep HB3.out)).mono ?_
  rintro e w4 ⟨rfl, hb⟩
  have HN4 := Lib.hid ((hb.block _ (Array.getElem?_eq_some_iff.1 HN3.out).1).trans HN3.out)
  have HM4 := Lib.hid ((hb.block _ (Array.getElem?_eq_some_iff.1 HM3.out).1).trans HM3.out)
  have HB4 := Lib.hid (HB3.out.trans (hb.mono HB3.out.size))
  have HZ4 := Lib.hid (HZ3.out.below hb)
  clear hb c0 c1 c2 c3 c4 c5 c6 c7 f0 f1 f2 f3 f4 f5 f6 f7
  obtain ⟨l1, HL1⟩ : ∃ b, Hid (ltB A = b) := ⟨_, Lib.hid rfl⟩
  rw [HL1.out]
  cases l1 with
  | false =>
    go_wp2_with fail
    go_ret
    exact ⟨rfl, HB4.out⟩
  | true =>
    obtain ⟨c0, c1, c2, c3, c4, c5, c6, c7⟩ := rowS8 HN4.out
    obtain ⟨f0, f1, f2, f3, f4, f5, f6, f7⟩ := rowS8 HM4.out
    go_wp2_with fail
    refine (light11_any B _ w4 (HX.out.keep HB4.out)).mono ?_
    rintro e w5 ⟨rfl, hb⟩
    have HN5 := Lib.hid ((hb.block _ (Array.getElem?_eq_some_iff.1 HN4.out).1).trans HN4.out)
    have HM5 := Lib.hid ((hb.block _ (Array.getElem?_eq_some_iff.1 HM4.out).1).trans HM4.out)
    have HB5 := Lib.hid (HB4.out.trans (hb.mono HB4.out.size))
    have HZ5 := Lib.hid (HZ4.out.below hb)
    clear hb c0 c1 c2 c3 c4 c5 c6 c7 f0 f1 f2 f3 f4 f5 f6 f7
    obtain ⟨l2, HL2⟩ : ∃ b, Hid (ltB B = b) := ⟨_, Lib.hid rfl⟩
    rw [HL2.out]
    cases l2 with
    | false =>
      go_wp2_with fail
      go_ret
      exact ⟨rfl, HB5.out⟩
    | true =>
      obtain ⟨c0, c1, c2, c3, c4, c5, c6, c7⟩ := rowS8 HN5.out
      obtain ⟨f0, f1, f2, f3, f4, f5, f6, f7⟩ := rowS8 HM5.out
      go_wp2_with fail
      refine (own_sxK A HSA.out.owk _ w5 (HA.out.keep HB5.out)).mono ?_
      rintro e w6 ⟨ua, rfl, hla, hb⟩
      have HN6 := Lib.hid ((hb.block _ (Array.getElem?_eq_some_iff.1 HN5.out).1).trans HN5.out)
      have HM6 := Lib.hid ((hb.block _ (Array.getElem?_eq_some_iff.1 HM5.out).1).trans HM5.out)
      have HB6 := Lib.hid (HB5.out.trans (hb.mono HB5.out.size))
      have HZ6 := Lib.hid (HZ5.out.below hb)
      have HLA := Lib.hid hla.lay
      clear hla hb c0 c1 c2 c3 c4 c5 c6 c7 f0 f1 f2 f3 f4 f5 f6 f7
      obtain ⟨ob6, S6, k1, k2, _⟩ := HZ6.out.ex
      have HR6 := Lib.hid k1
      clear k1 k2
      obtain ⟨c0, c1, c2, c3, c4, c5, c6, c7⟩ := rowS8 HN6.out
      obtain ⟨f0, f1, f2, f3, f4, f5, f6, f7⟩ := rowS8 HM6.out
      go_wp2_with fail
      refine (rfind_any w6 g ob6 n 0 tk HR6.out A ua HLA.out HSA.out (HT.out.below HB6.out (Nat.le_refl _))).mono ?_
      rintro e w7 ⟨rfl, hb⟩
      have HN7 := Lib.hid ((hb.block _ (Array.getElem?_eq_some_iff.1 HN6.out).1).trans HN6.out)
      have HM7 := Lib.hid ((hb.block _ (Array.getElem?_eq_some_iff.1 HM6.out).1).trans HM6.out)
      have HB7 := Lib.hid (HB6.out.trans (hb.mono HB6.out.size))
      have HZ7 := Lib.hid (HZ6.out.below hb)
      clear hb c0 c1 c2 c3 c4 c5 c6 c7 f0 f1 f2 f3 f4 f5 f6 f7
      obtain ⟨x, HFX⟩ : ∃ x, Hid (fndB tk A = x) := ⟨_, Lib.hid rfl⟩
      obtain ⟨y, HFE⟩ : ∃ y, Hid (fndE A = y) := ⟨_, Lib.hid rfl⟩
      rw [HFX.out, HFE.out]
      obtain ⟨c0, c1, c2, c3, c4, c5, c6, c7⟩ := rowS8 HN7.out
      obtain ⟨f0, f1, f2, f3, f4, f5, f6, f7⟩ := rowS8 HM7.out
      go_wp2_with fail
      refine (rident_any A _ w7 (HA.out.keep HB7.out) HSA.out).mono ?_
      rintro e w8 ⟨rfl, hb⟩
      have HN8 := Lib.hid ((hb.block _ (Array.getElem?_eq_some_iff.1 HN7.out).1).trans HN7.out)
      have HM8 := Lib.hid ((hb.block _ (Array.getElem?_eq_some_iff.1 HM7.out).1).trans HM7.out)
      have HB8 := Lib.hid (HB7.out.trans (hb.mono HB7.out.size))
      have HZ8 := Lib.hid (HZ7.out.below hb)
      clear hb c0 c1 c2 c3 c4 c5 c6 c7 f0 f1 f2 f3 f4 f5 f6 f7
      cases hi : idB A with
      | false =>
        have e1 : x = 0 := by rw [← HFX.out]; unfold fndB; rw [hi]; rfl
        have e2 : y = 1 := by rw [← HFE.out]; unfold fndE; rw [hi]; rfl
        subst e1 e2
        clear hi
        go_upto_region 12 with fail
        have HN9 := Lib.hid HN8.out
        have HM9 := Lib.hid HM8.out
        have HB9 := Lib.hid HB8.out
        have HLT := Lib.hid (And.intro (Array.getElem?_eq_some_iff.1 HN9.out).1 (Array.getElem?_eq_some_iff.1 HM9.out).1)
        have HPS := Lib.hid HZ8.out.en.pos
        obtain ⟨ob, S, k1, k2, _, _, _⟩ := HZ8.out.ex
        have HRB := Lib.hid k1
        have HRR := Lib.hid k2
        obtain ⟨fr, HF1⟩ : ∃ b, Hid (frB (fndL (atE tk A.t) A.s A.m) (fndL (atE tk B.t) B.s B.m) A B = b) := ⟨_, Lib.hid rfl⟩
        have HF2 : Hid (frB (fndL (fun b t => atL es b A.t t) A.s A.m) (fndL (fun b t => atL es b B.t t) B.s B.m) A B = fr) := Lib.hid (by have h := HF1.out; rw [fnd_en HZ8.out.en A.t _ _ HRA.out, fnd_en HZ8.out.en B.t _ _ HRX.out] at h; exact h)
        obtain ⟨bd, HBD⟩ : ∃ b, Hid (bndB A B = b) := ⟨_, Lib.hid rfl⟩
        clear k1 k2
        generalize w8 = w9 at *
        refine wp_region_slotsG (psi [isV (.pointer (some ⟨g, 0, none⟩)), isV (.agg #[.int .i64 kx, .string tx, .bool nx, .slice xo xn xc, .slice yo yn yc, .int .i64 ax, .slice po pn pc, .slice qo qn qc]), isOw A, isV (.agg #[.int .i64 kx', .string tx', .bool nx', .slice xo' xn' xc', .slice yo' yn' yc', .int .i64 ax', .slice po' pn' pc', .slice qo' qn' qc']), isOw B, isV (.bool fr), isV (.pointer (some ⟨m, 0, none⟩)), isV (.agg #[.int .i64 kx, .string tx, .bool nx, .slice xo xn xc, .slice yo yn yc, .int .i64 ax, .slice po pn pc, .slice qo qn qc]), isV (.agg #[.int .i64 kx', .string tx', .bool nx', .slice xo' xn' xc', .slice yo' yn' yc', .int .i64 ax', .slice po' pn' pc', .slice qo' qn' qc']), isV (.bool fr), isV (.bool true), isV (.bool true), isV (.agg #[.int .i64 kx, .string tx, .bool nx, .slice xo xn xc, .slice yo yn yc, .int .i64 ax, .slice po pn pc, .slice qo qn qc]), isOw A, isV (.agg #[.int .i64 kx', .string tx', .bool nx', .slice xo' xn' xc', .slice yo' yn' yc', .int .i64 ax', .slice po' pn' pc', .slice qo' qn' qc']), isOw B, isV (.bool bd), isV (.agg #[.int .i64 kx, .string tx, .bool nx, .slice xo xn xc, .slice yo yn yc, .int .i64 ax, .slice po pn pc, .slice qo qn qc]), isV (.agg #[.int .i64 kx', .string tx', .bool nx', .slice xo' xn' xc', .slice yo' yn' yc', .int .i64 ax', .slice po' pn' pc', .slice qo' qn' qc']), isV (.bool bd), isV (.bool true), isV (.bool true), isV (.bool true)]) (fun W => Below w9.heap.size w9 W) (by kernel_rfl) (Below.refl _ _).drew (psi_mono ?_) (by kernel_rfl) (by kernel_rfl) ?_ ?_
        · intro pq hp
          simp only [List.mem_cons, List.not_mem_nil, or_false] at hp
          (repeat' rcases hp with rfl | hp) <;> first | exact isV_stays _ | (subst hp; exact isV_stays _) | exact isOw_stays _ | (subst hp; exact isOw_stays _)
        · refine AllOps.cons ?_ ?_
          · intro ab W hC hB hdep
            refine .inl ⟨rfl, ?_⟩
            have b0 : ab.tmps.getD 9 undef = .pointer (some ⟨g, 0, none⟩) := hB.off 9 (by kernel_rfl)
            clear hB hdep
            refine goes_value (v := .pointer (some ⟨g, 0, none⟩)) ?_ hC rfl
            simp only [execOp, Act.eval, b0]
            go_simp
          refine AllOps.cons ?_ ?_
          · intro ab W hC hB hdep
            refine .inl ⟨rfl, ?_⟩
            have b0 : ab.tmps.getD 6 undef = .pointer (some ⟨w.heap.size, 0, none⟩) := hB.off 6 (by kernel_rfl)
            obtain ⟨c0, c1, c2, c3, c4, c5, c6, c7⟩ := rowS8 ((hC.block _ HLT.out.1).trans HN9.out)
            clear hB hdep
            refine goes_value (v := .agg #[.int .i64 kx, .string tx, .bool nx, .slice xo xn xc, .slice yo yn yc, .int .i64 ax, .slice po pn pc, .slice qo qn qc]) ?_ hC rfl
            simp only [execOp, Act.eval, b0]
            go_simp
          refine AllOps.cons ?_ ?_
          · intro ab W hC hB hdep
            refine .inl ⟨rfl, ?_⟩
            obtain ⟨x0, (q0 : (isV (.agg #[.int .i64 kx, .string tx, .bool nx, .slice xo xn xc, .slice yo yn yc, .int .i64 ax, .slice po pn pc, .slice qo qn qc])) x0 W), e0⟩ := hdep 1 61 (by kernel_rfl)
            obtain rfl : x0 = .agg #[.int .i64 kx, .string tx, .bool nx, .slice xo xn xc, .slice yo yn yc, .int .i64 ax, .slice po pn pc, .slice qo qn qc] := q0
            clear hB hdep
            refine goes_call (f := 10) (args := #[.agg #[.int .i64 kx, .string tx, .bool nx, .slice xo xn xc, .slice yo yn yc, .int .i64 ax, .slice po pn pc, .slice qo qn qc]]) ?_ ?_
            · simp only [execOp]
              go_simp
            · exact (own_sxK A HSA.out.owk _ W (HA.out.keep (HB9.out.trans (hC.mono HB9.out.size)))).mono fun e w7 ⟨vs, he, hl, hb⟩ => ⟨_, he, hC.trans (hb.mono hC.size), hb, ⟨vs, rfl, hl.lay⟩⟩
          refine AllOps.cons ?_ ?_
          · intro ab W hC hB hdep
            refine .inl ⟨rfl, ?_⟩
            have b0 : ab.tmps.getD 7 undef = .pointer (some ⟨w.heap.size + 1, 0, none⟩) := hB.off 7 (by kernel_rfl)
            obtain ⟨c0, c1, c2, c3, c4, c5, c6, c7⟩ := rowS8 ((hC.block _ HLT.out.2).trans HM9.out)
            clear hB hdep
            refine goes_value (v := .agg #[.int .i64 kx', .string tx', .bool nx', .slice xo' xn' xc', .slice yo' yn' yc', .int .i64 ax', .slice po' pn' pc', .slice qo' qn' qc']) ?_ hC rfl
            simp only [execOp, Act.eval, b0]
            go_simp
          refine AllOps.cons ?_ ?_
          · intro ab W hC hB hdep
            refine .inl ⟨rfl, ?_⟩
            obtain ⟨x0, (q0 : (isV (.agg #[.int .i64 kx', .string tx', .bool nx', .slice xo' xn' xc', .slice yo' yn' yc', .int .i64 ax', .slice po' pn' pc', .slice qo' qn' qc'])) x0 W), e0⟩ := hdep 3 63 (by kernel_rfl)
            obtain rfl : x0 = .agg #[.int .i64 kx', .string tx', .bool nx', .slice xo' xn' xc', .slice yo' yn' yc', .int .i64 ax', .slice po' pn' pc', .slice qo' qn' qc'] := q0
            clear hB hdep
            refine goes_call (f := 10) (args := #[.agg #[.int .i64 kx', .string tx', .bool nx', .slice xo' xn' xc', .slice yo' yn' yc', .int .i64 ax', .slice po' pn' pc', .slice qo' qn' qc']]) ?_ ?_
            · simp only [execOp]
              go_simp
            · exact (own_sxK B HSB.out.owk _ W (HX.out.keep (HB9.out.trans (hC.mono HB9.out.size)))).mono fun e w7 ⟨vs, he, hl, hb⟩ => ⟨_, he, hC.trans (hb.mono hC.size), hb, ⟨vs, rfl, hl.lay⟩⟩
          refine AllOps.cons ?_ ?_
          · intro ab W hC hB hdep
            refine .inl ⟨rfl, ?_⟩
            obtain ⟨x0, (q0 : (isV (.pointer (some ⟨g, 0, none⟩))) x0 W), e0⟩ := hdep 0 60 (by kernel_rfl)
            obtain rfl : x0 = .pointer (some ⟨g, 0, none⟩) := q0
            obtain ⟨x1, (q1 : (isOw A) x1 W), e1⟩ := hdep 2 62 (by kernel_rfl)
            skip
            obtain ⟨x2, (q2 : (isOw B) x2 W), e2⟩ := hdep 4 64 (by kernel_rfl)
            skip
            clear hB hdep
            refine goes_call (f := 13) (args := #[.pointer (some ⟨g, 0, none⟩), x1, x2]) ?_ ?_
            · simp only [execOp]
              go_simp
            · obtain ⟨ua, rfl, hla⟩ := q1
              obtain ⟨ub, rfl, hlb⟩ := q2
              exact (cfree_any W g ob n 0 tk (HRB.out.below hC) A B ua ub hla hlb HSA.out HSB.out (HT.out.below (HB9.out.trans (hC.mono HB9.out.size)) (Nat.le_refl _))).mono fun e w7 ⟨he, hb⟩ => ⟨_, he, hC.trans (hb.mono hC.size), hb, by show Value.bool _ = _; rw [HF1.out]⟩
          refine AllOps.cons ?_ ?_
          · intro ab W hC hB hdep
            refine .inl ⟨rfl, ?_⟩
            have b0 : ab.tmps.getD 10 undef = .pointer (some ⟨m, 0, none⟩) := hB.off 10 (by kernel_rfl)
            clear hB hdep
            refine goes_value (v := .pointer (some ⟨m, 0, none⟩)) ?_ hC rfl
            simp only [execOp, Act.eval, b0]
            go_simp
          refine AllOps.cons ?_ ?_
          · intro ab W hC hB hdep
            refine .inl ⟨rfl, ?_⟩
            have b0 : ab.tmps.getD 6 undef = .pointer (some ⟨w.heap.size, 0, none⟩) := hB.off 6 (by kernel_rfl)
            obtain ⟨c0, c1, c2, c3, c4, c5, c6, c7⟩ := rowS8 ((hC.block _ HLT.out.1).trans HN9.out)
            clear hB hdep
            refine goes_value (v := .agg #[.int .i64 kx, .string tx, .bool nx, .slice xo xn xc, .slice yo yn yc, .int .i64 ax, .slice po pn pc, .slice qo qn qc]) ?_ hC rfl
            simp only [execOp, Act.eval, b0]
            go_simp
          refine AllOps.cons ?_ ?_
          · intro ab W hC hB hdep
            refine .inl ⟨rfl, ?_⟩
            have b0 : ab.tmps.getD 7 undef = .pointer (some ⟨w.heap.size + 1, 0, none⟩) := hB.off 7 (by kernel_rfl)
            obtain ⟨c0, c1, c2, c3, c4, c5, c6, c7⟩ := rowS8 ((hC.block _ HLT.out.2).trans HM9.out)
            clear hB hdep
            refine goes_value (v := .agg #[.int .i64 kx', .string tx', .bool nx', .slice xo' xn' xc', .slice yo' yn' yc', .int .i64 ax', .slice po' pn' pc', .slice qo' qn' qc']) ?_ hC rfl
            simp only [execOp, Act.eval, b0]
            go_simp
          refine AllOps.cons ?_ ?_
          · intro ab W hC hB hdep
            refine .inl ⟨rfl, ?_⟩
            obtain ⟨x0, (q0 : (isV (.pointer (some ⟨m, 0, none⟩))) x0 W), e0⟩ := hdep 6 66 (by kernel_rfl)
            obtain rfl : x0 = .pointer (some ⟨m, 0, none⟩) := q0
            obtain ⟨x1, (q1 : (isV (.agg #[.int .i64 kx, .string tx, .bool nx, .slice xo xn xc, .slice yo yn yc, .int .i64 ax, .slice po pn pc, .slice qo qn qc])) x1 W), e1⟩ := hdep 7 67 (by kernel_rfl)
            obtain rfl : x1 = .agg #[.int .i64 kx, .string tx, .bool nx, .slice xo xn xc, .slice yo yn yc, .int .i64 ax, .slice po pn pc, .slice qo qn qc] := q1
            obtain ⟨x2, (q2 : (isV (.agg #[.int .i64 kx', .string tx', .bool nx', .slice xo' xn' xc', .slice yo' yn' yc', .int .i64 ax', .slice po' pn' pc', .slice qo' qn' qc'])) x2 W), e2⟩ := hdep 8 68 (by kernel_rfl)
            obtain rfl : x2 = .agg #[.int .i64 kx', .string tx', .bool nx', .slice xo' xn' xc', .slice yo' yn' yc', .int .i64 ax', .slice po' pn' pc', .slice qo' qn' qc'] := q2
            clear hB hdep
            refine goes_call (f := 14) (args := #[.pointer (some ⟨m, 0, none⟩), .agg #[.int .i64 kx, .string tx, .bool nx, .slice xo xn xc, .slice yo yn yc, .int .i64 ax, .slice po pn pc, .slice qo qn qc], .agg #[.int .i64 kx', .string tx', .bool nx', .slice xo' xn' xc', .slice yo' yn' yc', .int .i64 ax', .slice po' pn' pc', .slice qo' qn' qc']]) ?_ ?_
            · simp only [execOp]
              go_simp
            · exact (rrfree_any W S m n es (HRR.out.below hC) A B _ _ (HA.out.keep (HB9.out.trans (hC.mono HB9.out.size))) (HX.out.keep (HB9.out.trans (hC.mono HB9.out.size))) HSA.out HSB.out HEL.out HPS.out).mono fun e w7 ⟨he, hb⟩ => ⟨_, he, hC.trans (hb.mono hC.size), hb, by show Value.bool _ = _; rw [HF2.out]⟩
          refine AllOps.cons ?_ ?_
          · intro ab W hC hB hdep
            refine .inl ⟨rfl, ?_⟩
            obtain ⟨x0, (q0 : (isV (.bool fr)) x0 W), e0⟩ := hdep 5 65 (by kernel_rfl)
            obtain rfl : x0 = .bool fr := q0
            obtain ⟨x1, (q1 : (isV (.bool fr)) x1 W), e1⟩ := hdep 9 69 (by kernel_rfl)
            obtain rfl : x1 = .bool fr := q1
            clear hB hdep
            refine goes_value (v := .bool true) ?_ hC rfl
            simp only [execOp, Act.eval, e0, e1]
            go_simp
          refine AllOps.cons ?_ ?_
          · intro ab W hC hB hdep
            refine .inl ⟨rfl, ?_⟩
            obtain ⟨x0, (q0 : (isV (.bool true)) x0 W), e0⟩ := hdep 10 70 (by kernel_rfl)
            obtain rfl : x0 = .bool true := q0
            clear hB hdep
            refine goes_value (v := .bool true) ?_ hC rfl
            simp only [execOp, Act.eval, e0]
            go_simp
          refine AllOps.cons ?_ ?_
          · intro ab W hC hB hdep
            obtain ⟨xg, (qg : xg = .bool true), eg⟩ := hdep 11 71 (by kernel_rfl)
            subst qg
            refine .inl ⟨((wanted_is (g := 11) (t := 71) (b := true) (c := true) rfl rfl (by rw [hB.size]; exact Nat.le_of_ble_eq_true rfl) eg).trans rfl), ?_⟩
            have b0 : ab.tmps.getD 6 undef = .pointer (some ⟨w.heap.size, 0, none⟩) := hB.off 6 (by kernel_rfl)
            obtain ⟨c0, c1, c2, c3, c4, c5, c6, c7⟩ := rowS8 ((hC.block _ HLT.out.1).trans HN9.out)
            clear hB hdep
            refine goes_value (v := .agg #[.int .i64 kx, .string tx, .bool nx, .slice xo xn xc, .slice yo yn yc, .int .i64 ax, .slice po pn pc, .slice qo qn qc]) ?_ hC rfl
            simp only [execOp, Act.eval, b0]
            go_simp
          refine AllOps.cons ?_ ?_
          · intro ab W hC hB hdep
            obtain ⟨xg, (qg : xg = .bool true), eg⟩ := hdep 11 71 (by kernel_rfl)
            subst qg
            refine .inl ⟨((wanted_is (g := 11) (t := 71) (b := true) (c := true) rfl rfl (by rw [hB.size]; exact Nat.le_of_ble_eq_true rfl) eg).trans rfl), ?_⟩
            obtain ⟨x0, (q0 : (isV (.agg #[.int .i64 kx, .string tx, .bool nx, .slice xo xn xc, .slice yo yn yc, .int .i64 ax, .slice po pn pc, .slice qo qn qc])) x0 W), e0⟩ := hdep 12 72 (by kernel_rfl)
            obtain rfl : x0 = .agg #[.int .i64 kx, .string tx, .bool nx, .slice xo xn xc, .slice yo yn yc, .int .i64 ax, .slice po pn pc, .slice qo qn qc] := q0
            clear hB hdep
            refine goes_call (f := 10) (args := #[.agg #[.int .i64 kx, .string tx, .bool nx, .slice xo xn xc, .slice yo yn yc, .int .i64 ax, .slice po pn pc, .slice qo qn qc]]) ?_ ?_
            · simp only [execOp]
              go_simp
            · exact (own_sxK A HSA.out.owk _ W (HA.out.keep (HB9.out.trans (hC.mono HB9.out.size)))).mono fun e w7 ⟨vs, he, hl, hb⟩ => ⟨_, he, hC.trans (hb.mono hC.size), hb, ⟨vs, rfl, hl.lay⟩⟩
          refine AllOps.cons ?_ ?_
          · intro ab W hC hB hdep
            obtain ⟨xg, (qg : xg = .bool true), eg⟩ := hdep 11 71 (by kernel_rfl)
            subst qg
            refine .inl ⟨((wanted_is (g := 11) (t := 71) (b := true) (c := true) rfl rfl (by rw [hB.size]; exact Nat.le_of_ble_eq_true rfl) eg).trans rfl), ?_⟩
            have b0 : ab.tmps.getD 7 undef = .pointer (some ⟨w.heap.size + 1, 0, none⟩) := hB.off 7 (by kernel_rfl)
            obtain ⟨c0, c1, c2, c3, c4, c5, c6, c7⟩ := rowS8 ((hC.block _ HLT.out.2).trans HM9.out)
            clear hB hdep
            refine goes_value (v := .agg #[.int .i64 kx', .string tx', .bool nx', .slice xo' xn' xc', .slice yo' yn' yc', .int .i64 ax', .slice po' pn' pc', .slice qo' qn' qc']) ?_ hC rfl
            simp only [execOp, Act.eval, b0]
            go_simp
          refine AllOps.cons ?_ ?_
          · intro ab W hC hB hdep
            obtain ⟨xg, (qg : xg = .bool true), eg⟩ := hdep 11 71 (by kernel_rfl)
            subst qg
            refine .inl ⟨((wanted_is (g := 11) (t := 71) (b := true) (c := true) rfl rfl (by rw [hB.size]; exact Nat.le_of_ble_eq_true rfl) eg).trans rfl), ?_⟩
            obtain ⟨x0, (q0 : (isV (.agg #[.int .i64 kx', .string tx', .bool nx', .slice xo' xn' xc', .slice yo' yn' yc', .int .i64 ax', .slice po' pn' pc', .slice qo' qn' qc'])) x0 W), e0⟩ := hdep 14 74 (by kernel_rfl)
            obtain rfl : x0 = .agg #[.int .i64 kx', .string tx', .bool nx', .slice xo' xn' xc', .slice yo' yn' yc', .int .i64 ax', .slice po' pn' pc', .slice qo' qn' qc'] := q0
            clear hB hdep
            refine goes_call (f := 10) (args := #[.agg #[.int .i64 kx', .string tx', .bool nx', .slice xo' xn' xc', .slice yo' yn' yc', .int .i64 ax', .slice po' pn' pc', .slice qo' qn' qc']]) ?_ ?_
            · simp only [execOp]
              go_simp
            · exact (own_sxK B HSB.out.owk _ W (HX.out.keep (HB9.out.trans (hC.mono HB9.out.size)))).mono fun e w7 ⟨vs, he, hl, hb⟩ => ⟨_, he, hC.trans (hb.mono hC.size), hb, ⟨vs, rfl, hl.lay⟩⟩
          refine AllOps.cons ?_ ?_
          · intro ab W hC hB hdep
            obtain ⟨xg, (qg : xg = .bool true), eg⟩ := hdep 11 71 (by kernel_rfl)
            subst qg
            refine .inl ⟨((wanted_is (g := 11) (t := 71) (b := true) (c := true) rfl rfl (by rw [hB.size]; exact Nat.le_of_ble_eq_true rfl) eg).trans rfl), ?_⟩
            obtain ⟨x0, (q0 : (isOw A) x0 W), e0⟩ := hdep 13 73 (by kernel_rfl)
            skip
            obtain ⟨x1, (q1 : (isOw B) x1 W), e1⟩ := hdep 15 75 (by kernel_rfl)
            skip
            clear hB hdep
            refine goes_call (f := 15) (args := #[x0, x1]) ?_ ?_
            · simp only [execOp]
              go_simp
            · obtain ⟨ua, rfl, hla⟩ := q0
              obtain ⟨ub, rfl, hlb⟩ := q1
              exact (bound_any A B ua ub W hla hlb HSA.out HSB.out (HT.out.below (HB9.out.trans (hC.mono HB9.out.size)) (Nat.le_refl _))).mono fun e w7 ⟨he, hb⟩ => ⟨_, he, hC.trans (hb.mono hC.size), hb, by show Value.bool _ = _; rw [HBD.out]⟩
          refine AllOps.cons ?_ ?_
          · intro ab W hC hB hdep
            obtain ⟨xg, (qg : xg = .bool true), eg⟩ := hdep 11 71 (by kernel_rfl)
            subst qg
            refine .inl ⟨((wanted_is (g := 11) (t := 71) (b := true) (c := true) rfl rfl (by rw [hB.size]; exact Nat.le_of_ble_eq_true rfl) eg).trans rfl), ?_⟩
            have b0 : ab.tmps.getD 6 undef = .pointer (some ⟨w.heap.size, 0, none⟩) := hB.off 6 (by kernel_rfl)
            obtain ⟨c0, c1, c2, c3, c4, c5, c6, c7⟩ := rowS8 ((hC.block _ HLT.out.1).trans HN9.out)
            clear hB hdep
            refine goes_value (v := .agg #[.int .i64 kx, .string tx, .bool nx, .slice xo xn xc, .slice yo yn yc, .int .i64 ax, .slice po pn pc, .slice qo qn qc]) ?_ hC rfl
            simp only [execOp, Act.eval, b0]
            go_simp
          refine AllOps.cons ?_ ?_
          · intro ab W hC hB hdep
            obtain ⟨xg, (qg : xg = .bool true), eg⟩ := hdep 11 71 (by kernel_rfl)
            subst qg
            refine .inl ⟨((wanted_is (g := 11) (t := 71) (b := true) (c := true) rfl rfl (by rw [hB.size]; exact Nat.le_of_ble_eq_true rfl) eg).trans rfl), ?_⟩
            have b0 : ab.tmps.getD 7 undef = .pointer (some ⟨w.heap.size + 1, 0, none⟩) := hB.off 7 (by kernel_rfl)
            obtain ⟨c0, c1, c2, c3, c4, c5, c6, c7⟩ := rowS8 ((hC.block _ HLT.out.2).trans HM9.out)
            clear hB hdep
            refine goes_value (v := .agg #[.int .i64 kx', .string tx', .bool nx', .slice xo' xn' xc', .slice yo' yn' yc', .int .i64 ax', .slice po' pn' pc', .slice qo' qn' qc']) ?_ hC rfl
            simp only [execOp, Act.eval, b0]
            go_simp
          refine AllOps.cons ?_ ?_
          · intro ab W hC hB hdep
            obtain ⟨xg, (qg : xg = .bool true), eg⟩ := hdep 11 71 (by kernel_rfl)
            subst qg
            refine .inl ⟨((wanted_is (g := 11) (t := 71) (b := true) (c := true) rfl rfl (by rw [hB.size]; exact Nat.le_of_ble_eq_true rfl) eg).trans rfl), ?_⟩
            obtain ⟨x0, (q0 : (isV (.agg #[.int .i64 kx, .string tx, .bool nx, .slice xo xn xc, .slice yo yn yc, .int .i64 ax, .slice po pn pc, .slice qo qn qc])) x0 W), e0⟩ := hdep 17 77 (by kernel_rfl)
            obtain rfl : x0 = .agg #[.int .i64 kx, .string tx, .bool nx, .slice xo xn xc, .slice yo yn yc, .int .i64 ax, .slice po pn pc, .slice qo qn qc] := q0
            obtain ⟨x1, (q1 : (isV (.agg #[.int .i64 kx', .string tx', .bool nx', .slice xo' xn' xc', .slice yo' yn' yc', .int .i64 ax', .slice po' pn' pc', .slice qo' qn' qc'])) x1 W), e1⟩ := hdep 18 78 (by kernel_rfl)
            obtain rfl : x1 = .agg #[.int .i64 kx', .string tx', .bool nx', .slice xo' xn' xc', .slice yo' yn' yc', .int .i64 ax', .slice po' pn' pc', .slice qo' qn' qc'] := q1
            clear hB hdep
            refine goes_call (f := 16) (args := #[.agg #[.int .i64 kx, .string tx, .bool nx, .slice xo xn xc, .slice yo yn yc, .int .i64 ax, .slice po pn pc, .slice qo qn qc], .agg #[.int .i64 kx', .string tx', .bool nx', .slice xo' xn' xc', .slice yo' yn' yc', .int .i64 ax', .slice po' pn' pc', .slice qo' qn' qc']]) ?_ ?_
            · simp only [execOp]
              go_simp
            · exact (rbound_any A B _ _ W (HA.out.keep (HB9.out.trans (hC.mono HB9.out.size))) (HX.out.keep (HB9.out.trans (hC.mono HB9.out.size))) HSA.out HSB.out).mono fun e w7 ⟨he, hb⟩ => ⟨_, he, hC.trans (hb.mono hC.size), hb, by show Value.bool _ = _; rw [HBD.out]⟩
          refine AllOps.cons ?_ ?_
          · intro ab W hC hB hdep
            obtain ⟨xg, (qg : xg = .bool true), eg⟩ := hdep 11 71 (by kernel_rfl)
            subst qg
            refine .inl ⟨((wanted_is (g := 11) (t := 71) (b := true) (c := true) rfl rfl (by rw [hB.size]; exact Nat.le_of_ble_eq_true rfl) eg).trans rfl), ?_⟩
            obtain ⟨x0, (q0 : (isV (.bool bd)) x0 W), e0⟩ := hdep 16 76 (by kernel_rfl)
            obtain rfl : x0 = .bool bd := q0
            obtain ⟨x1, (q1 : (isV (.bool bd)) x1 W), e1⟩ := hdep 19 79 (by kernel_rfl)
            obtain rfl : x1 = .bool bd := q1
            clear hB hdep
            refine goes_value (v := .bool true) ?_ hC rfl
            simp only [execOp, Act.eval, e0, e1]
            go_simp
          refine AllOps.cons ?_ ?_
          · intro ab W hC hB hdep
            refine .inl ⟨rfl, ?_⟩
            obtain ⟨x0, (q0 : (isV (.bool true)) x0 W), e0⟩ := hdep 11 71 (by kernel_rfl)
            obtain rfl : x0 = .bool true := q0
            obtain ⟨x1, (q1 : (isV (.bool true)) x1 W), e1⟩ := hdep 20 80 (by kernel_rfl)
            obtain rfl : x1 = .bool true := q1
            clear hB hdep
            refine goes_value (v := .bool true) ?_ hC rfl
            simp only [execOp, Act.eval, e0, e1]
            go_simp
          refine AllOps.cons ?_ ?_
          · intro ab W hC hB hdep
            refine .inl ⟨rfl, ?_⟩
            obtain ⟨x0, (q0 : (isV (.bool true)) x0 W), e0⟩ := hdep 21 81 (by kernel_rfl)
            obtain rfl : x0 = .bool true := q0
            clear hB hdep
            refine goes_value (v := .bool true) ?_ hC rfl
            simp only [execOp, Act.eval, e0]
            go_simp
          exact trivial
        · intro aa wC hC hB hall
          obtain ⟨v0, (k0 : v0 = .pointer (some ⟨g, 0, none⟩)), e0⟩ := hall 0 _ rfl
          obtain ⟨v1, (k1 : v1 = .agg #[.int .i64 kx, .string tx, .bool nx, .slice xo xn xc, .slice yo yn yc, .int .i64 ax, .slice po pn pc, .slice qo qn qc]), e1⟩ := hall 1 _ rfl
          obtain ⟨v2, (k2 : (isOw A) v2 wC), e2⟩ := hall 2 _ rfl
          obtain ⟨v3, (k3 : v3 = .agg #[.int .i64 kx', .string tx', .bool nx', .slice xo' xn' xc', .slice yo' yn' yc', .int .i64 ax', .slice po' pn' pc', .slice qo' qn' qc']), e3⟩ := hall 3 _ rfl
          obtain ⟨v4, (k4 : (isOw B) v4 wC), e4⟩ := hall 4 _ rfl
          obtain ⟨v5, (k5 : v5 = .bool fr), e5⟩ := hall 5 _ rfl
          obtain ⟨v6, (k6 : v6 = .pointer (some ⟨m, 0, none⟩)), e6⟩ := hall 6 _ rfl
          obtain ⟨v7, (k7 : v7 = .agg #[.int .i64 kx, .string tx, .bool nx, .slice xo xn xc, .slice yo yn yc, .int .i64 ax, .slice po pn pc, .slice qo qn qc]), e7⟩ := hall 7 _ rfl
          obtain ⟨v8, (k8 : v8 = .agg #[.int .i64 kx', .string tx', .bool nx', .slice xo' xn' xc', .slice yo' yn' yc', .int .i64 ax', .slice po' pn' pc', .slice qo' qn' qc']), e8⟩ := hall 8 _ rfl
          obtain ⟨v9, (k9 : v9 = .bool fr), e9⟩ := hall 9 _ rfl
          obtain ⟨v10, (k10 : v10 = .bool true), e10⟩ := hall 10 _ rfl
          obtain ⟨v11, (k11 : v11 = .bool true), e11⟩ := hall 11 _ rfl
          obtain ⟨v12, (k12 : v12 = .agg #[.int .i64 kx, .string tx, .bool nx, .slice xo xn xc, .slice yo yn yc, .int .i64 ax, .slice po pn pc, .slice qo qn qc]), e12⟩ := hall 12 _ rfl
          obtain ⟨v13, (k13 : (isOw A) v13 wC), e13⟩ := hall 13 _ rfl
          obtain ⟨v14, (k14 : v14 = .agg #[.int .i64 kx', .string tx', .bool nx', .slice xo' xn' xc', .slice yo' yn' yc', .int .i64 ax', .slice po' pn' pc', .slice qo' qn' qc']), e14⟩ := hall 14 _ rfl
          obtain ⟨v15, (k15 : (isOw B) v15 wC), e15⟩ := hall 15 _ rfl
          obtain ⟨v16, (k16 : v16 = .bool bd), e16⟩ := hall 16 _ rfl
          obtain ⟨v17, (k17 : v17 = .agg #[.int .i64 kx, .string tx, .bool nx, .slice xo xn xc, .slice yo yn yc, .int .i64 ax, .slice po pn pc, .slice qo qn qc]), e17⟩ := hall 17 _ rfl
          obtain ⟨v18, (k18 : v18 = .agg #[.int .i64 kx', .string tx', .bool nx', .slice xo' xn' xc', .slice yo' yn' yc', .int .i64 ax', .slice po' pn' pc', .slice qo' qn' qc']), e18⟩ := hall 18 _ rfl
          obtain ⟨v19, (k19 : v19 = .bool bd), e19⟩ := hall 19 _ rfl
          obtain ⟨v20, (k20 : v20 = .bool true), e20⟩ := hall 20 _ rfl
          obtain ⟨v21, (k21 : v21 = .bool true), e21⟩ := hall 21 _ rfl
          obtain ⟨v22, (k22 : v22 = .bool true), e22⟩ := hall 22 _ rfl
          subst k0 k1 k3 k5 k6 k7 k8 k9 k10 k11 k12 k14 k16 k17 k18 k19 k20 k21 k22
          have hv : ∀ pq ∈ [((60 : Nat), (.pointer (some ⟨g, 0, none⟩) : Value)), ((61 : Nat), (.agg #[.int .i64 kx, .string tx, .bool nx, .slice xo xn xc, .slice yo yn yc, .int .i64 ax, .slice po pn pc, .slice qo qn qc] : Value)), ((62 : Nat), (v2 : Value)), ((63 : Nat), (.agg #[.int .i64 kx', .string tx', .bool nx', .slice xo' xn' xc', .slice yo' yn' yc', .int .i64 ax', .slice po' pn' pc', .slice qo' qn' qc'] : Value)), ((64 : Nat), (v4 : Value)), ((65 : Nat), (.bool fr : Value)), ((66 : Nat), (.pointer (some ⟨m, 0, none⟩) : Value)), ((67 : Nat), (.agg #[.int .i64 kx, .string tx, .bool nx, .slice xo xn xc, .slice yo yn yc, .int .i64 ax, .slice po pn pc, .slice qo qn qc] : Value)), ((68 : Nat), (.agg #[.int .i64 kx', .string tx', .bool nx', .slice xo' xn' xc', .slice yo' yn' yc', .int .i64 ax', .slice po' pn' pc', .slice qo' qn' qc'] : Value)), ((69 : Nat), (.bool fr : Value)), ((70 : Nat), (.bool true : Value)), ((71 : Nat), (.bool true : Value)), ((72 : Nat), (.agg #[.int .i64 kx, .string tx, .bool nx, .slice xo xn xc, .slice yo yn yc, .int .i64 ax, .slice po pn pc, .slice qo qn qc] : Value)), ((73 : Nat), (v13 : Value)), ((74 : Nat), (.agg #[.int .i64 kx', .string tx', .bool nx', .slice xo' xn' xc', .slice yo' yn' yc', .int .i64 ax', .slice po' pn' pc', .slice qo' qn' qc'] : Value)), ((75 : Nat), (v15 : Value)), ((76 : Nat), (.bool bd : Value)), ((77 : Nat), (.agg #[.int .i64 kx, .string tx, .bool nx, .slice xo xn xc, .slice yo yn yc, .int .i64 ax, .slice po pn pc, .slice qo qn qc] : Value)), ((78 : Nat), (.agg #[.int .i64 kx', .string tx', .bool nx', .slice xo' xn' xc', .slice yo' yn' yc', .int .i64 ax', .slice po' pn' pc', .slice qo' qn' qc'] : Value)), ((79 : Nat), (.bool bd : Value)), ((80 : Nat), (.bool true : Value)), ((81 : Nat), (.bool true : Value)), ((8 : Nat), (.bool true : Value))], aa.tmps.getD pq.1 undef = pq.2 := by
            intro pq hp
            simp only [List.mem_cons, List.not_mem_nil, or_false] at hp
            rcases hp with rfl | rfl | rfl | rfl | rfl | rfl | rfl | rfl | rfl | rfl | rfl | rfl | rfl | rfl | rfl | rfl | rfl | rfl | rfl | rfl | rfl | rfl | rfl
            · exact e0 _ rfl
            · exact e1 _ rfl
            · exact e2 _ rfl
            · exact e3 _ rfl
            · exact e4 _ rfl
            · exact e5 _ rfl
            · exact e6 _ rfl
            · exact e7 _ rfl
            · exact e8 _ rfl
            · exact e9 _ rfl
            · exact e10 _ rfl
            · exact e11 _ rfl
            · exact e12 _ rfl
            · exact e13 _ rfl
            · exact e14 _ rfl
            · exact e15 _ rfl
            · exact e16 _ rfl
            · exact e17 _ rfl
            · exact e18 _ rfl
            · exact e19 _ rfl
            · exact e20 _ rfl
            · exact e21 _ rfl
            · exact e22 _ rfl
          have hact := act_fold _ hB hv (by kernel_rfl)
          subst hact
          clear hv hall hB e0 e1 e2 e3 e4 e5 e6 e7 e8 e9 e10 e11 e12 e13 e14 e15 e16 e17 e18 e19 e20 e21 e22
          refine (‹∀ (a : Act) (w : World), Code.wp Tryz.prog _ _ a w → _›) _ wC ?_
          simp only [List.foldl, List.setIfInBounds_toArray, List.set_cons_succ, List.set_cons_zero]
          have HC := Lib.hid (HB9.out.trans (hC.mono HB9.out.size))
          clear hC
          go_wp2_with fail
          go_ret
          exact ⟨rfl, HC.out⟩
      | true =>
        have e1 : fndL (atE tk A.t) A.s A.m = x := by rw [← HFX.out]; unfold fndB; rw [hi]; rfl
        have e2 : y = 0 := by rw [← HFE.out]; unfold fndE; rw [hi]; rfl
        subst e2
        have hwr := idB_wrap hi
        have HWR := Lib.hid (And.intro (sndW_zc hwr) (sndW_len hwr))
        have HE1 : Hid (fndL (fun b t => atL es b A.t t) A.s A.m = x) := Lib.hid (by rw [fnd_en HZ8.out.en A.t _ _ HRA.out] at e1; exact e1)
        clear hi hwr e1
        obtain ⟨ob8, S8, k1, k2, _⟩ := HZ8.out.ex
        have HR8 := Lib.hid k2
        have HP8 := Lib.hid HZ8.out.en.pos
        clear k1 k2
        obtain ⟨c0, c1, c2, c3, c4, c5, c6, c7⟩ := rowS8 HN8.out
        obtain ⟨f0, f1, f2, f3, f4, f5, f6, f7⟩ := rowS8 HM8.out
        go_wp2_with fail
        refine (rrfind_any w8 S8 m n es HR8.out A _ (HA.out.keep HB8.out) (by have := HWR.out.1; omega) (by have := HWR.out.2; omega) (by have := HWR.out.2; omega) HEL.out HP8.out).mono ?_
        rintro e w10 ⟨rfl, hb⟩
        have HN10 := Lib.hid ((hb.block _ (Array.getElem?_eq_some_iff.1 HN8.out).1).trans HN8.out)
        have HM10 := Lib.hid ((hb.block _ (Array.getElem?_eq_some_iff.1 HM8.out).1).trans HM8.out)
        have HB10 := Lib.hid (HB8.out.trans (hb.mono HB8.out.size))
        have HZ10 := Lib.hid (HZ8.out.below hb)
        clear hb c0 c1 c2 c3 c4 c5 c6 c7 f0 f1 f2 f3 f4 f5 f6 f7
        rw [HE1.out]
        have hxx : (x != x) = false := by simp
        go_upto_region 12 with fail
        clear hxx
        have HN9 := Lib.hid HN10.out
        have HM9 := Lib.hid HM10.out
        have HB9 := Lib.hid HB10.out
        have HLT := Lib.hid (And.intro (Array.getElem?_eq_some_iff.1 HN9.out).1 (Array.getElem?_eq_some_iff.1 HM9.out).1)
        have HPS := Lib.hid HZ10.out.en.pos
        obtain ⟨ob, S, k1, k2, _, _, _⟩ := HZ10.out.ex
        have HRB := Lib.hid k1
        have HRR := Lib.hid k2
        obtain ⟨fr, HF1⟩ : ∃ b, Hid (frB (fndL (atE tk A.t) A.s A.m) (fndL (atE tk B.t) B.s B.m) A B = b) := ⟨_, Lib.hid rfl⟩
        have HF2 : Hid (frB (fndL (fun b t => atL es b A.t t) A.s A.m) (fndL (fun b t => atL es b B.t t) B.s B.m) A B = fr) := Lib.hid (by have h := HF1.out; rw [fnd_en HZ10.out.en A.t _ _ HRA.out, fnd_en HZ10.out.en B.t _ _ HRX.out] at h; exact h)
        obtain ⟨bd, HBD⟩ : ∃ b, Hid (bndB A B = b) := ⟨_, Lib.hid rfl⟩
        clear k1 k2
        generalize w10 = w9 at *
        refine wp_region_slotsG (psi [isV (.pointer (some ⟨g, 0, none⟩)), isV (.agg #[.int .i64 kx, .string tx, .bool nx, .slice xo xn xc, .slice yo yn yc, .int .i64 ax, .slice po pn pc, .slice qo qn qc]), isOw A, isV (.agg #[.int .i64 kx', .string tx', .bool nx', .slice xo' xn' xc', .slice yo' yn' yc', .int .i64 ax', .slice po' pn' pc', .slice qo' qn' qc']), isOw B, isV (.bool fr), isV (.pointer (some ⟨m, 0, none⟩)), isV (.agg #[.int .i64 kx, .string tx, .bool nx, .slice xo xn xc, .slice yo yn yc, .int .i64 ax, .slice po pn pc, .slice qo qn qc]), isV (.agg #[.int .i64 kx', .string tx', .bool nx', .slice xo' xn' xc', .slice yo' yn' yc', .int .i64 ax', .slice po' pn' pc', .slice qo' qn' qc']), isV (.bool fr), isV (.bool true), isV (.bool true), isV (.agg #[.int .i64 kx, .string tx, .bool nx, .slice xo xn xc, .slice yo yn yc, .int .i64 ax, .slice po pn pc, .slice qo qn qc]), isOw A, isV (.agg #[.int .i64 kx', .string tx', .bool nx', .slice xo' xn' xc', .slice yo' yn' yc', .int .i64 ax', .slice po' pn' pc', .slice qo' qn' qc']), isOw B, isV (.bool bd), isV (.agg #[.int .i64 kx, .string tx, .bool nx, .slice xo xn xc, .slice yo yn yc, .int .i64 ax, .slice po pn pc, .slice qo qn qc]), isV (.agg #[.int .i64 kx', .string tx', .bool nx', .slice xo' xn' xc', .slice yo' yn' yc', .int .i64 ax', .slice po' pn' pc', .slice qo' qn' qc']), isV (.bool bd), isV (.bool true), isV (.bool true), isV (.bool true)]) (fun W => Below w9.heap.size w9 W) (by kernel_rfl) (Below.refl _ _).drew (psi_mono ?_) (by kernel_rfl) (by kernel_rfl) ?_ ?_
        · intro pq hp
          simp only [List.mem_cons, List.not_mem_nil, or_false] at hp
          (repeat' rcases hp with rfl | hp) <;> first | exact isV_stays _ | (subst hp; exact isV_stays _) | exact isOw_stays _ | (subst hp; exact isOw_stays _)
        · refine AllOps.cons ?_ ?_
          · intro ab W hC hB hdep
            refine .inl ⟨rfl, ?_⟩
            have b0 : ab.tmps.getD 9 undef = .pointer (some ⟨g, 0, none⟩) := hB.off 9 (by kernel_rfl)
            clear hB hdep
            refine goes_value (v := .pointer (some ⟨g, 0, none⟩)) ?_ hC rfl
            simp only [execOp, Act.eval, b0]
            go_simp
          refine AllOps.cons ?_ ?_
          · intro ab W hC hB hdep
            refine .inl ⟨rfl, ?_⟩
            have b0 : ab.tmps.getD 6 undef = .pointer (some ⟨w.heap.size, 0, none⟩) := hB.off 6 (by kernel_rfl)
            obtain ⟨c0, c1, c2, c3, c4, c5, c6, c7⟩ := rowS8 ((hC.block _ HLT.out.1).trans HN9.out)
            clear hB hdep
            refine goes_value (v := .agg #[.int .i64 kx, .string tx, .bool nx, .slice xo xn xc, .slice yo yn yc, .int .i64 ax, .slice po pn pc, .slice qo qn qc]) ?_ hC rfl
            simp only [execOp, Act.eval, b0]
            go_simp
          refine AllOps.cons ?_ ?_
          · intro ab W hC hB hdep
            refine .inl ⟨rfl, ?_⟩
            obtain ⟨x0, (q0 : (isV (.agg #[.int .i64 kx, .string tx, .bool nx, .slice xo xn xc, .slice yo yn yc, .int .i64 ax, .slice po pn pc, .slice qo qn qc])) x0 W), e0⟩ := hdep 1 61 (by kernel_rfl)
            obtain rfl : x0 = .agg #[.int .i64 kx, .string tx, .bool nx, .slice xo xn xc, .slice yo yn yc, .int .i64 ax, .slice po pn pc, .slice qo qn qc] := q0
            clear hB hdep
            refine goes_call (f := 10) (args := #[.agg #[.int .i64 kx, .string tx, .bool nx, .slice xo xn xc, .slice yo yn yc, .int .i64 ax, .slice po pn pc, .slice qo qn qc]]) ?_ ?_
            · simp only [execOp]
              go_simp
            · exact (own_sxK A HSA.out.owk _ W (HA.out.keep (HB9.out.trans (hC.mono HB9.out.size)))).mono fun e w7 ⟨vs, he, hl, hb⟩ => ⟨_, he, hC.trans (hb.mono hC.size), hb, ⟨vs, rfl, hl.lay⟩⟩
          refine AllOps.cons ?_ ?_
          · intro ab W hC hB hdep
            refine .inl ⟨rfl, ?_⟩
            have b0 : ab.tmps.getD 7 undef = .pointer (some ⟨w.heap.size + 1, 0, none⟩) := hB.off 7 (by kernel_rfl)
            obtain ⟨c0, c1, c2, c3, c4, c5, c6, c7⟩ := rowS8 ((hC.block _ HLT.out.2).trans HM9.out)
            clear hB hdep
            refine goes_value (v := .agg #[.int .i64 kx', .string tx', .bool nx', .slice xo' xn' xc', .slice yo' yn' yc', .int .i64 ax', .slice po' pn' pc', .slice qo' qn' qc']) ?_ hC rfl
            simp only [execOp, Act.eval, b0]
            go_simp
          refine AllOps.cons ?_ ?_
          · intro ab W hC hB hdep
            refine .inl ⟨rfl, ?_⟩
            obtain ⟨x0, (q0 : (isV (.agg #[.int .i64 kx', .string tx', .bool nx', .slice xo' xn' xc', .slice yo' yn' yc', .int .i64 ax', .slice po' pn' pc', .slice qo' qn' qc'])) x0 W), e0⟩ := hdep 3 63 (by kernel_rfl)
            obtain rfl : x0 = .agg #[.int .i64 kx', .string tx', .bool nx', .slice xo' xn' xc', .slice yo' yn' yc', .int .i64 ax', .slice po' pn' pc', .slice qo' qn' qc'] := q0
            clear hB hdep
            refine goes_call (f := 10) (args := #[.agg #[.int .i64 kx', .string tx', .bool nx', .slice xo' xn' xc', .slice yo' yn' yc', .int .i64 ax', .slice po' pn' pc', .slice qo' qn' qc']]) ?_ ?_
            · simp only [execOp]
              go_simp
            · exact (own_sxK B HSB.out.owk _ W (HX.out.keep (HB9.out.trans (hC.mono HB9.out.size)))).mono fun e w7 ⟨vs, he, hl, hb⟩ => ⟨_, he, hC.trans (hb.mono hC.size), hb, ⟨vs, rfl, hl.lay⟩⟩
          refine AllOps.cons ?_ ?_
          · intro ab W hC hB hdep
            refine .inl ⟨rfl, ?_⟩
            obtain ⟨x0, (q0 : (isV (.pointer (some ⟨g, 0, none⟩))) x0 W), e0⟩ := hdep 0 60 (by kernel_rfl)
            obtain rfl : x0 = .pointer (some ⟨g, 0, none⟩) := q0
            obtain ⟨x1, (q1 : (isOw A) x1 W), e1⟩ := hdep 2 62 (by kernel_rfl)
            skip
            obtain ⟨x2, (q2 : (isOw B) x2 W), e2⟩ := hdep 4 64 (by kernel_rfl)
            skip
            clear hB hdep
            refine goes_call (f := 13) (args := #[.pointer (some ⟨g, 0, none⟩), x1, x2]) ?_ ?_
            · simp only [execOp]
              go_simp
            · obtain ⟨ua, rfl, hla⟩ := q1
              obtain ⟨ub, rfl, hlb⟩ := q2
              exact (cfree_any W g ob n 0 tk (HRB.out.below hC) A B ua ub hla hlb HSA.out HSB.out (HT.out.below (HB9.out.trans (hC.mono HB9.out.size)) (Nat.le_refl _))).mono fun e w7 ⟨he, hb⟩ => ⟨_, he, hC.trans (hb.mono hC.size), hb, by show Value.bool _ = _; rw [HF1.out]⟩
          refine AllOps.cons ?_ ?_
          · intro ab W hC hB hdep
            refine .inl ⟨rfl, ?_⟩
            have b0 : ab.tmps.getD 10 undef = .pointer (some ⟨m, 0, none⟩) := hB.off 10 (by kernel_rfl)
            clear hB hdep
            refine goes_value (v := .pointer (some ⟨m, 0, none⟩)) ?_ hC rfl
            simp only [execOp, Act.eval, b0]
            go_simp
          refine AllOps.cons ?_ ?_
          · intro ab W hC hB hdep
            refine .inl ⟨rfl, ?_⟩
            have b0 : ab.tmps.getD 6 undef = .pointer (some ⟨w.heap.size, 0, none⟩) := hB.off 6 (by kernel_rfl)
            obtain ⟨c0, c1, c2, c3, c4, c5, c6, c7⟩ := rowS8 ((hC.block _ HLT.out.1).trans HN9.out)
            clear hB hdep
            refine goes_value (v := .agg #[.int .i64 kx, .string tx, .bool nx, .slice xo xn xc, .slice yo yn yc, .int .i64 ax, .slice po pn pc, .slice qo qn qc]) ?_ hC rfl
            simp only [execOp, Act.eval, b0]
            go_simp
          refine AllOps.cons ?_ ?_
          · intro ab W hC hB hdep
            refine .inl ⟨rfl, ?_⟩
            have b0 : ab.tmps.getD 7 undef = .pointer (some ⟨w.heap.size + 1, 0, none⟩) := hB.off 7 (by kernel_rfl)
            obtain ⟨c0, c1, c2, c3, c4, c5, c6, c7⟩ := rowS8 ((hC.block _ HLT.out.2).trans HM9.out)
            clear hB hdep
            refine goes_value (v := .agg #[.int .i64 kx', .string tx', .bool nx', .slice xo' xn' xc', .slice yo' yn' yc', .int .i64 ax', .slice po' pn' pc', .slice qo' qn' qc']) ?_ hC rfl
            simp only [execOp, Act.eval, b0]
            go_simp
          refine AllOps.cons ?_ ?_
          · intro ab W hC hB hdep
            refine .inl ⟨rfl, ?_⟩
            obtain ⟨x0, (q0 : (isV (.pointer (some ⟨m, 0, none⟩))) x0 W), e0⟩ := hdep 6 66 (by kernel_rfl)
            obtain rfl : x0 = .pointer (some ⟨m, 0, none⟩) := q0
            obtain ⟨x1, (q1 : (isV (.agg #[.int .i64 kx, .string tx, .bool nx, .slice xo xn xc, .slice yo yn yc, .int .i64 ax, .slice po pn pc, .slice qo qn qc])) x1 W), e1⟩ := hdep 7 67 (by kernel_rfl)
            obtain rfl : x1 = .agg #[.int .i64 kx, .string tx, .bool nx, .slice xo xn xc, .slice yo yn yc, .int .i64 ax, .slice po pn pc, .slice qo qn qc] := q1
            obtain ⟨x2, (q2 : (isV (.agg #[.int .i64 kx', .string tx', .bool nx', .slice xo' xn' xc', .slice yo' yn' yc', .int .i64 ax', .slice po' pn' pc', .slice qo' qn' qc'])) x2 W), e2⟩ := hdep 8 68 (by kernel_rfl)
            obtain rfl : x2 = .agg #[.int .i64 kx', .string tx', .bool nx', .slice xo' xn' xc', .slice yo' yn' yc', .int .i64 ax', .slice po' pn' pc', .slice qo' qn' qc'] := q2
            clear hB hdep
            refine goes_call (f := 14) (args := #[.pointer (some ⟨m, 0, none⟩), .agg #[.int .i64 kx, .string tx, .bool nx, .slice xo xn xc, .slice yo yn yc, .int .i64 ax, .slice po pn pc, .slice qo qn qc], .agg #[.int .i64 kx', .string tx', .bool nx', .slice xo' xn' xc', .slice yo' yn' yc', .int .i64 ax', .slice po' pn' pc', .slice qo' qn' qc']]) ?_ ?_
            · simp only [execOp]
              go_simp
            · exact (rrfree_any W S m n es (HRR.out.below hC) A B _ _ (HA.out.keep (HB9.out.trans (hC.mono HB9.out.size))) (HX.out.keep (HB9.out.trans (hC.mono HB9.out.size))) HSA.out HSB.out HEL.out HPS.out).mono fun e w7 ⟨he, hb⟩ => ⟨_, he, hC.trans (hb.mono hC.size), hb, by show Value.bool _ = _; rw [HF2.out]⟩
          refine AllOps.cons ?_ ?_
          · intro ab W hC hB hdep
            refine .inl ⟨rfl, ?_⟩
            obtain ⟨x0, (q0 : (isV (.bool fr)) x0 W), e0⟩ := hdep 5 65 (by kernel_rfl)
            obtain rfl : x0 = .bool fr := q0
            obtain ⟨x1, (q1 : (isV (.bool fr)) x1 W), e1⟩ := hdep 9 69 (by kernel_rfl)
            obtain rfl : x1 = .bool fr := q1
            clear hB hdep
            refine goes_value (v := .bool true) ?_ hC rfl
            simp only [execOp, Act.eval, e0, e1]
            go_simp
          refine AllOps.cons ?_ ?_
          · intro ab W hC hB hdep
            refine .inl ⟨rfl, ?_⟩
            obtain ⟨x0, (q0 : (isV (.bool true)) x0 W), e0⟩ := hdep 10 70 (by kernel_rfl)
            obtain rfl : x0 = .bool true := q0
            clear hB hdep
            refine goes_value (v := .bool true) ?_ hC rfl
            simp only [execOp, Act.eval, e0]
            go_simp
          refine AllOps.cons ?_ ?_
          · intro ab W hC hB hdep
            obtain ⟨xg, (qg : xg = .bool true), eg⟩ := hdep 11 71 (by kernel_rfl)
            subst qg
            refine .inl ⟨((wanted_is (g := 11) (t := 71) (b := true) (c := true) rfl rfl (by rw [hB.size]; exact Nat.le_of_ble_eq_true rfl) eg).trans rfl), ?_⟩
            have b0 : ab.tmps.getD 6 undef = .pointer (some ⟨w.heap.size, 0, none⟩) := hB.off 6 (by kernel_rfl)
            obtain ⟨c0, c1, c2, c3, c4, c5, c6, c7⟩ := rowS8 ((hC.block _ HLT.out.1).trans HN9.out)
            clear hB hdep
            refine goes_value (v := .agg #[.int .i64 kx, .string tx, .bool nx, .slice xo xn xc, .slice yo yn yc, .int .i64 ax, .slice po pn pc, .slice qo qn qc]) ?_ hC rfl
            simp only [execOp, Act.eval, b0]
            go_simp
          refine AllOps.cons ?_ ?_
          · intro ab W hC hB hdep
            obtain ⟨xg, (qg : xg = .bool true), eg⟩ := hdep 11 71 (by kernel_rfl)
            subst qg
            refine .inl ⟨((wanted_is (g := 11) (t := 71) (b := true) (c := true) rfl rfl (by rw [hB.size]; exact Nat.le_of_ble_eq_true rfl) eg).trans rfl), ?_⟩
            obtain ⟨x0, (q0 : (isV (.agg #[.int .i64 kx, .string tx, .bool nx, .slice xo xn xc, .slice yo yn yc, .int .i64 ax, .slice po pn pc, .slice qo qn qc])) x0 W), e0⟩ := hdep 12 72 (by kernel_rfl)
            obtain rfl : x0 = .agg #[.int .i64 kx, .string tx, .bool nx, .slice xo xn xc, .slice yo yn yc, .int .i64 ax, .slice po pn pc, .slice qo qn qc] := q0
            clear hB hdep
            refine goes_call (f := 10) (args := #[.agg #[.int .i64 kx, .string tx, .bool nx, .slice xo xn xc, .slice yo yn yc, .int .i64 ax, .slice po pn pc, .slice qo qn qc]]) ?_ ?_
            · simp only [execOp]
              go_simp
            · exact (own_sxK A HSA.out.owk _ W (HA.out.keep (HB9.out.trans (hC.mono HB9.out.size)))).mono fun e w7 ⟨vs, he, hl, hb⟩ => ⟨_, he, hC.trans (hb.mono hC.size), hb, ⟨vs, rfl, hl.lay⟩⟩
          refine AllOps.cons ?_ ?_
          · intro ab W hC hB hdep
            obtain ⟨xg, (qg : xg = .bool true), eg⟩ := hdep 11 71 (by kernel_rfl)
            subst qg
            refine .inl ⟨((wanted_is (g := 11) (t := 71) (b := true) (c := true) rfl rfl (by rw [hB.size]; exact Nat.le_of_ble_eq_true rfl) eg).trans rfl), ?_⟩
            have b0 : ab.tmps.getD 7 undef = .pointer (some ⟨w.heap.size + 1, 0, none⟩) := hB.off 7 (by kernel_rfl)
            obtain ⟨c0, c1, c2, c3, c4, c5, c6, c7⟩ := rowS8 ((hC.block _ HLT.out.2).trans HM9.out)
            clear hB hdep
            refine goes_value (v := .agg #[.int .i64 kx', .string tx', .bool nx', .slice xo' xn' xc', .slice yo' yn' yc', .int .i64 ax', .slice po' pn' pc', .slice qo' qn' qc']) ?_ hC rfl
            simp only [execOp, Act.eval, b0]
            go_simp
          refine AllOps.cons ?_ ?_
          · intro ab W hC hB hdep
            obtain ⟨xg, (qg : xg = .bool true), eg⟩ := hdep 11 71 (by kernel_rfl)
            subst qg
            refine .inl ⟨((wanted_is (g := 11) (t := 71) (b := true) (c := true) rfl rfl (by rw [hB.size]; exact Nat.le_of_ble_eq_true rfl) eg).trans rfl), ?_⟩
            obtain ⟨x0, (q0 : (isV (.agg #[.int .i64 kx', .string tx', .bool nx', .slice xo' xn' xc', .slice yo' yn' yc', .int .i64 ax', .slice po' pn' pc', .slice qo' qn' qc'])) x0 W), e0⟩ := hdep 14 74 (by kernel_rfl)
            obtain rfl : x0 = .agg #[.int .i64 kx', .string tx', .bool nx', .slice xo' xn' xc', .slice yo' yn' yc', .int .i64 ax', .slice po' pn' pc', .slice qo' qn' qc'] := q0
            clear hB hdep
            refine goes_call (f := 10) (args := #[.agg #[.int .i64 kx', .string tx', .bool nx', .slice xo' xn' xc', .slice yo' yn' yc', .int .i64 ax', .slice po' pn' pc', .slice qo' qn' qc']]) ?_ ?_
            · simp only [execOp]
              go_simp
            · exact (own_sxK B HSB.out.owk _ W (HX.out.keep (HB9.out.trans (hC.mono HB9.out.size)))).mono fun e w7 ⟨vs, he, hl, hb⟩ => ⟨_, he, hC.trans (hb.mono hC.size), hb, ⟨vs, rfl, hl.lay⟩⟩
          refine AllOps.cons ?_ ?_
          · intro ab W hC hB hdep
            obtain ⟨xg, (qg : xg = .bool true), eg⟩ := hdep 11 71 (by kernel_rfl)
            subst qg
            refine .inl ⟨((wanted_is (g := 11) (t := 71) (b := true) (c := true) rfl rfl (by rw [hB.size]; exact Nat.le_of_ble_eq_true rfl) eg).trans rfl), ?_⟩
            obtain ⟨x0, (q0 : (isOw A) x0 W), e0⟩ := hdep 13 73 (by kernel_rfl)
            skip
            obtain ⟨x1, (q1 : (isOw B) x1 W), e1⟩ := hdep 15 75 (by kernel_rfl)
            skip
            clear hB hdep
            refine goes_call (f := 15) (args := #[x0, x1]) ?_ ?_
            · simp only [execOp]
              go_simp
            · obtain ⟨ua, rfl, hla⟩ := q0
              obtain ⟨ub, rfl, hlb⟩ := q1
              exact (bound_any A B ua ub W hla hlb HSA.out HSB.out (HT.out.below (HB9.out.trans (hC.mono HB9.out.size)) (Nat.le_refl _))).mono fun e w7 ⟨he, hb⟩ => ⟨_, he, hC.trans (hb.mono hC.size), hb, by show Value.bool _ = _; rw [HBD.out]⟩
          refine AllOps.cons ?_ ?_
          · intro ab W hC hB hdep
            obtain ⟨xg, (qg : xg = .bool true), eg⟩ := hdep 11 71 (by kernel_rfl)
            subst qg
            refine .inl ⟨((wanted_is (g := 11) (t := 71) (b := true) (c := true) rfl rfl (by rw [hB.size]; exact Nat.le_of_ble_eq_true rfl) eg).trans rfl), ?_⟩
            have b0 : ab.tmps.getD 6 undef = .pointer (some ⟨w.heap.size, 0, none⟩) := hB.off 6 (by kernel_rfl)
            obtain ⟨c0, c1, c2, c3, c4, c5, c6, c7⟩ := rowS8 ((hC.block _ HLT.out.1).trans HN9.out)
            clear hB hdep
            refine goes_value (v := .agg #[.int .i64 kx, .string tx, .bool nx, .slice xo xn xc, .slice yo yn yc, .int .i64 ax, .slice po pn pc, .slice qo qn qc]) ?_ hC rfl
            simp only [execOp, Act.eval, b0]
            go_simp
          refine AllOps.cons ?_ ?_
          · intro ab W hC hB hdep
            obtain ⟨xg, (qg : xg = .bool true), eg⟩ := hdep 11 71 (by kernel_rfl)
            subst qg
            refine .inl ⟨((wanted_is (g := 11) (t := 71) (b := true) (c := true) rfl rfl (by rw [hB.size]; exact Nat.le_of_ble_eq_true rfl) eg).trans rfl), ?_⟩
            have b0 : ab.tmps.getD 7 undef = .pointer (some ⟨w.heap.size + 1, 0, none⟩) := hB.off 7 (by kernel_rfl)
            obtain ⟨c0, c1, c2, c3, c4, c5, c6, c7⟩ := rowS8 ((hC.block _ HLT.out.2).trans HM9.out)
            clear hB hdep
            refine goes_value (v := .agg #[.int .i64 kx', .string tx', .bool nx', .slice xo' xn' xc', .slice yo' yn' yc', .int .i64 ax', .slice po' pn' pc', .slice qo' qn' qc']) ?_ hC rfl
            simp only [execOp, Act.eval, b0]
            go_simp
          refine AllOps.cons ?_ ?_
          · intro ab W hC hB hdep
            obtain ⟨xg, (qg : xg = .bool true), eg⟩ := hdep 11 71 (by kernel_rfl)
            subst qg
            refine .inl ⟨((wanted_is (g := 11) (t := 71) (b := true) (c := true) rfl rfl (by rw [hB.size]; exact Nat.le_of_ble_eq_true rfl) eg).trans rfl), ?_⟩
            obtain ⟨x0, (q0 : (isV (.agg #[.int .i64 kx, .string tx, .bool nx, .slice xo xn xc, .slice yo yn yc, .int .i64 ax, .slice po pn pc, .slice qo qn qc])) x0 W), e0⟩ := hdep 17 77 (by kernel_rfl)
            obtain rfl : x0 = .agg #[.int .i64 kx, .string tx, .bool nx, .slice xo xn xc, .slice yo yn yc, .int .i64 ax, .slice po pn pc, .slice qo qn qc] := q0
            obtain ⟨x1, (q1 : (isV (.agg #[.int .i64 kx', .string tx', .bool nx', .slice xo' xn' xc', .slice yo' yn' yc', .int .i64 ax', .slice po' pn' pc', .slice qo' qn' qc'])) x1 W), e1⟩ := hdep 18 78 (by kernel_rfl)
            obtain rfl : x1 = .agg #[.int .i64 kx', .string tx', .bool nx', .slice xo' xn' xc', .slice yo' yn' yc', .int .i64 ax', .slice po' pn' pc', .slice qo' qn' qc'] := q1
            clear hB hdep
            refine goes_call (f := 16) (args := #[.agg #[.int .i64 kx, .string tx, .bool nx, .slice xo xn xc, .slice yo yn yc, .int .i64 ax, .slice po pn pc, .slice qo qn qc], .agg #[.int .i64 kx', .string tx', .bool nx', .slice xo' xn' xc', .slice yo' yn' yc', .int .i64 ax', .slice po' pn' pc', .slice qo' qn' qc']]) ?_ ?_
            · simp only [execOp]
              go_simp
            · exact (rbound_any A B _ _ W (HA.out.keep (HB9.out.trans (hC.mono HB9.out.size))) (HX.out.keep (HB9.out.trans (hC.mono HB9.out.size))) HSA.out HSB.out).mono fun e w7 ⟨he, hb⟩ => ⟨_, he, hC.trans (hb.mono hC.size), hb, by show Value.bool _ = _; rw [HBD.out]⟩
          refine AllOps.cons ?_ ?_
          · intro ab W hC hB hdep
            obtain ⟨xg, (qg : xg = .bool true), eg⟩ := hdep 11 71 (by kernel_rfl)
            subst qg
            refine .inl ⟨((wanted_is (g := 11) (t := 71) (b := true) (c := true) rfl rfl (by rw [hB.size]; exact Nat.le_of_ble_eq_true rfl) eg).trans rfl), ?_⟩
            obtain ⟨x0, (q0 : (isV (.bool bd)) x0 W), e0⟩ := hdep 16 76 (by kernel_rfl)
            obtain rfl : x0 = .bool bd := q0
            obtain ⟨x1, (q1 : (isV (.bool bd)) x1 W), e1⟩ := hdep 19 79 (by kernel_rfl)
            obtain rfl : x1 = .bool bd := q1
            clear hB hdep
            refine goes_value (v := .bool true) ?_ hC rfl
            simp only [execOp, Act.eval, e0, e1]
            go_simp
          refine AllOps.cons ?_ ?_
          · intro ab W hC hB hdep
            refine .inl ⟨rfl, ?_⟩
            obtain ⟨x0, (q0 : (isV (.bool true)) x0 W), e0⟩ := hdep 11 71 (by kernel_rfl)
            obtain rfl : x0 = .bool true := q0
            obtain ⟨x1, (q1 : (isV (.bool true)) x1 W), e1⟩ := hdep 20 80 (by kernel_rfl)
            obtain rfl : x1 = .bool true := q1
            clear hB hdep
            refine goes_value (v := .bool true) ?_ hC rfl
            simp only [execOp, Act.eval, e0, e1]
            go_simp
          refine AllOps.cons ?_ ?_
          · intro ab W hC hB hdep
            refine .inl ⟨rfl, ?_⟩
            obtain ⟨x0, (q0 : (isV (.bool true)) x0 W), e0⟩ := hdep 21 81 (by kernel_rfl)
            obtain rfl : x0 = .bool true := q0
            clear hB hdep
            refine goes_value (v := .bool true) ?_ hC rfl
            simp only [execOp, Act.eval, e0]
            go_simp
          exact trivial
        · intro aa wC hC hB hall
          obtain ⟨v0, (k0 : v0 = .pointer (some ⟨g, 0, none⟩)), e0⟩ := hall 0 _ rfl
          obtain ⟨v1, (k1 : v1 = .agg #[.int .i64 kx, .string tx, .bool nx, .slice xo xn xc, .slice yo yn yc, .int .i64 ax, .slice po pn pc, .slice qo qn qc]), e1⟩ := hall 1 _ rfl
          obtain ⟨v2, (k2 : (isOw A) v2 wC), e2⟩ := hall 2 _ rfl
          obtain ⟨v3, (k3 : v3 = .agg #[.int .i64 kx', .string tx', .bool nx', .slice xo' xn' xc', .slice yo' yn' yc', .int .i64 ax', .slice po' pn' pc', .slice qo' qn' qc']), e3⟩ := hall 3 _ rfl
          obtain ⟨v4, (k4 : (isOw B) v4 wC), e4⟩ := hall 4 _ rfl
          obtain ⟨v5, (k5 : v5 = .bool fr), e5⟩ := hall 5 _ rfl
          obtain ⟨v6, (k6 : v6 = .pointer (some ⟨m, 0, none⟩)), e6⟩ := hall 6 _ rfl
          obtain ⟨v7, (k7 : v7 = .agg #[.int .i64 kx, .string tx, .bool nx, .slice xo xn xc, .slice yo yn yc, .int .i64 ax, .slice po pn pc, .slice qo qn qc]), e7⟩ := hall 7 _ rfl
          obtain ⟨v8, (k8 : v8 = .agg #[.int .i64 kx', .string tx', .bool nx', .slice xo' xn' xc', .slice yo' yn' yc', .int .i64 ax', .slice po' pn' pc', .slice qo' qn' qc']), e8⟩ := hall 8 _ rfl
          obtain ⟨v9, (k9 : v9 = .bool fr), e9⟩ := hall 9 _ rfl
          obtain ⟨v10, (k10 : v10 = .bool true), e10⟩ := hall 10 _ rfl
          obtain ⟨v11, (k11 : v11 = .bool true), e11⟩ := hall 11 _ rfl
          obtain ⟨v12, (k12 : v12 = .agg #[.int .i64 kx, .string tx, .bool nx, .slice xo xn xc, .slice yo yn yc, .int .i64 ax, .slice po pn pc, .slice qo qn qc]), e12⟩ := hall 12 _ rfl
          obtain ⟨v13, (k13 : (isOw A) v13 wC), e13⟩ := hall 13 _ rfl
          obtain ⟨v14, (k14 : v14 = .agg #[.int .i64 kx', .string tx', .bool nx', .slice xo' xn' xc', .slice yo' yn' yc', .int .i64 ax', .slice po' pn' pc', .slice qo' qn' qc']), e14⟩ := hall 14 _ rfl
          obtain ⟨v15, (k15 : (isOw B) v15 wC), e15⟩ := hall 15 _ rfl
          obtain ⟨v16, (k16 : v16 = .bool bd), e16⟩ := hall 16 _ rfl
          obtain ⟨v17, (k17 : v17 = .agg #[.int .i64 kx, .string tx, .bool nx, .slice xo xn xc, .slice yo yn yc, .int .i64 ax, .slice po pn pc, .slice qo qn qc]), e17⟩ := hall 17 _ rfl
          obtain ⟨v18, (k18 : v18 = .agg #[.int .i64 kx', .string tx', .bool nx', .slice xo' xn' xc', .slice yo' yn' yc', .int .i64 ax', .slice po' pn' pc', .slice qo' qn' qc']), e18⟩ := hall 18 _ rfl
          obtain ⟨v19, (k19 : v19 = .bool bd), e19⟩ := hall 19 _ rfl
          obtain ⟨v20, (k20 : v20 = .bool true), e20⟩ := hall 20 _ rfl
          obtain ⟨v21, (k21 : v21 = .bool true), e21⟩ := hall 21 _ rfl
          obtain ⟨v22, (k22 : v22 = .bool true), e22⟩ := hall 22 _ rfl
          subst k0 k1 k3 k5 k6 k7 k8 k9 k10 k11 k12 k14 k16 k17 k18 k19 k20 k21 k22
          have hv : ∀ pq ∈ [((60 : Nat), (.pointer (some ⟨g, 0, none⟩) : Value)), ((61 : Nat), (.agg #[.int .i64 kx, .string tx, .bool nx, .slice xo xn xc, .slice yo yn yc, .int .i64 ax, .slice po pn pc, .slice qo qn qc] : Value)), ((62 : Nat), (v2 : Value)), ((63 : Nat), (.agg #[.int .i64 kx', .string tx', .bool nx', .slice xo' xn' xc', .slice yo' yn' yc', .int .i64 ax', .slice po' pn' pc', .slice qo' qn' qc'] : Value)), ((64 : Nat), (v4 : Value)), ((65 : Nat), (.bool fr : Value)), ((66 : Nat), (.pointer (some ⟨m, 0, none⟩) : Value)), ((67 : Nat), (.agg #[.int .i64 kx, .string tx, .bool nx, .slice xo xn xc, .slice yo yn yc, .int .i64 ax, .slice po pn pc, .slice qo qn qc] : Value)), ((68 : Nat), (.agg #[.int .i64 kx', .string tx', .bool nx', .slice xo' xn' xc', .slice yo' yn' yc', .int .i64 ax', .slice po' pn' pc', .slice qo' qn' qc'] : Value)), ((69 : Nat), (.bool fr : Value)), ((70 : Nat), (.bool true : Value)), ((71 : Nat), (.bool true : Value)), ((72 : Nat), (.agg #[.int .i64 kx, .string tx, .bool nx, .slice xo xn xc, .slice yo yn yc, .int .i64 ax, .slice po pn pc, .slice qo qn qc] : Value)), ((73 : Nat), (v13 : Value)), ((74 : Nat), (.agg #[.int .i64 kx', .string tx', .bool nx', .slice xo' xn' xc', .slice yo' yn' yc', .int .i64 ax', .slice po' pn' pc', .slice qo' qn' qc'] : Value)), ((75 : Nat), (v15 : Value)), ((76 : Nat), (.bool bd : Value)), ((77 : Nat), (.agg #[.int .i64 kx, .string tx, .bool nx, .slice xo xn xc, .slice yo yn yc, .int .i64 ax, .slice po pn pc, .slice qo qn qc] : Value)), ((78 : Nat), (.agg #[.int .i64 kx', .string tx', .bool nx', .slice xo' xn' xc', .slice yo' yn' yc', .int .i64 ax', .slice po' pn' pc', .slice qo' qn' qc'] : Value)), ((79 : Nat), (.bool bd : Value)), ((80 : Nat), (.bool true : Value)), ((81 : Nat), (.bool true : Value)), ((8 : Nat), (.bool true : Value))], aa.tmps.getD pq.1 undef = pq.2 := by
            intro pq hp
            simp only [List.mem_cons, List.not_mem_nil, or_false] at hp
            rcases hp with rfl | rfl | rfl | rfl | rfl | rfl | rfl | rfl | rfl | rfl | rfl | rfl | rfl | rfl | rfl | rfl | rfl | rfl | rfl | rfl | rfl | rfl | rfl
            · exact e0 _ rfl
            · exact e1 _ rfl
            · exact e2 _ rfl
            · exact e3 _ rfl
            · exact e4 _ rfl
            · exact e5 _ rfl
            · exact e6 _ rfl
            · exact e7 _ rfl
            · exact e8 _ rfl
            · exact e9 _ rfl
            · exact e10 _ rfl
            · exact e11 _ rfl
            · exact e12 _ rfl
            · exact e13 _ rfl
            · exact e14 _ rfl
            · exact e15 _ rfl
            · exact e16 _ rfl
            · exact e17 _ rfl
            · exact e18 _ rfl
            · exact e19 _ rfl
            · exact e20 _ rfl
            · exact e21 _ rfl
            · exact e22 _ rfl
          have hact := act_fold _ hB hv (by kernel_rfl)
          subst hact
          clear hv hall hB e0 e1 e2 e3 e4 e5 e6 e7 e8 e9 e10 e11 e12 e13 e14 e15 e16 e17 e18 e19 e20 e21 e22
          refine (‹∀ (a : Act) (w : World), Code.wp Tryz.prog _ _ a w → _›) _ wC ?_
          simp only [List.foldl, List.setIfInBounds_toArray, List.set_cons_succ, List.set_cons_zero]
          have HC := Lib.hid (HB9.out.trans (hC.mono HB9.out.size))
          clear hC
          go_wp2_with fail
          go_ret
          exact ⟨rfl, HC.out⟩
end Go.Proofs.YtegengnffdlplaaGreatDoor
