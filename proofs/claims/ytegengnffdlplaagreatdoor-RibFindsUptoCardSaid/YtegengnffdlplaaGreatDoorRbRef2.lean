/- The document's Bound, Find and Free; the program's Free. -/
import Derived.Test.YtegengnffdlplaaGreatDoorRbRef
import Derived.Test.YtegengnffdlplaaGreatDoorOrdG
namespace Go.Proofs.YtegengnffdlplaaGreatDoor
open Go.RowKit

set_option maxRecDepth 100000 in
set_option maxHeartbeats 4000000 in
/-- ref09.Bound. -/
theorem rbound_any (D E : Sx) (us vs : List Value) (w : World) (hd : SLay w D us) (he : SLay w E vs) (hsm : SmS 1100000 D) (hsm2 : SmS 1100000 E) :
    Calls Tryz.prog 16 #[.agg us.toArray, .agg vs.toArray] w fun e w' => e = .returned (.bool (bndB D E)) ∧ Below w.heap.size w w' := by
  have HD := Lib.hid hd
  have HE := Lib.hid he
  have HSM := Lib.hid hsm
  have HSM2 := Lib.hid hsm2
  obtain ⟨kx, tx, nx, xo, xn, xc, yo, yn, yc, ax, po, pn, pc, qo, qn, qc, rfl⟩ := sx_shapes hd
  obtain ⟨kx', tx', nx', xo', xn', xc', yo', yn', yc', ax', po', pn', pc', qo', qn', qc', rfl⟩ := sx_shapes he
  have HX : Hid (tx = D.t ∧ Iz w (.slice po pn pc) D.m) := Lib.hid (by
    obtain ⟨_, _, _, _, _, he, _, _, _, hl, hm, hs, _⟩ := hd.open'
    simp only [List.cons.injEq, and_true] at he
    obtain ⟨_, h1, _, _, _, _, rfl, _⟩ := he
    exact ⟨by injection h1, hm⟩)
  have HX2 : Hid (tx' = E.t ∧ Iz w (.slice po' pn' pc') E.m) := Lib.hid (by
    obtain ⟨_, _, _, _, _, he, _, _, _, hl, hm, hs, _⟩ := he.open'
    simp only [List.cons.injEq, and_true] at he
    obtain ⟨_, h1, _, _, _, _, rfl, _⟩ := he
    exact ⟨by injection h1, hm⟩)
  clear hd he hsm hsm2
  have hb1 := (below1 w (.cells #[.int .i64 kx, .string tx, .bool nx, .slice xo xn xc, .slice yo yn yc, .int .i64 ax, .slice po pn pc, .slice qo qn qc] 29)).trans ((below1 (w.alloc (.cells #[.int .i64 kx, .string tx, .bool nx, .slice xo xn xc, .slice yo yn yc, .int .i64 ax, .slice po pn pc, .slice qo qn qc] 29)) (.cells #[.int .i64 kx', .string tx', .bool nx', .slice xo' xn' xc', .slice yo' yn' yc', .int .i64 ax', .slice po' pn' pc', .slice qo' qn' qc'] 29)).mono (by simp))
  have hn1 := @newsw2 w (.cells #[.int .i64 kx, .string tx, .bool nx, .slice xo xn xc, .slice yo yn yc, .int .i64 ax, .slice po pn pc, .slice qo qn qc] 29) (.cells #[.int .i64 kx', .string tx', .bool nx', .slice xo' xn' xc', .slice yo' yn' yc', .int .i64 ax', .slice po' pn' pc', .slice qo' qn' qc'] 29)
  show Calls Tryz.prog 16 #[.agg #[.int .i64 kx, .string tx, .bool nx, .slice xo xn xc, .slice yo yn yc, .int .i64 ax, .slice po pn pc, .slice qo qn qc], .agg #[.int .i64 kx', .string tx', .bool nx', .slice xo' xn' xc', .slice yo' yn' yc', .int .i64 ax', .slice po' pn' pc', .slice qo' qn' qc']] w _
  go_enter Tryz.func16, Tryz.ntmps16
  go_upto_region 1 with fail
  generalize (w.alloc (.cells #[.int .i64 kx, .string tx, .bool nx, .slice xo xn xc, .slice yo yn yc, .int .i64 ax, .slice po pn pc, .slice qo qn qc] 29)).alloc (.cells #[.int .i64 kx', .string tx', .bool nx', .slice xo' xn' xc', .slice yo' yn' yc', .int .i64 ax', .slice po' pn' pc', .slice qo' qn' qc'] 29) = w1 at *
  have HB1 := Lib.hid hb1
  have HN1 := Lib.hid hn1.1
  have HM1 := Lib.hid hn1.2
  clear hb1 hn1
  obtain ⟨c0, c1, c2, c3, c4, c5, c6, c7⟩ := rowS8 HN1.out
  obtain ⟨f0, f1, f2, f3, f4, f5, f6, f7⟩ := rowS8 HM1.out
  go_wp2_with fail
  refine (rident_any D _ w1 (HD.out.keep HB1.out) HSM.out).mono ?_
  rintro e w2 ⟨rfl, hb2⟩
  have HB2 := Lib.hid (HB1.out.trans (hb2.mono HB1.out.size))
  have HN2 := Lib.hid ((hb2.block _ (Array.getElem?_eq_some_iff.1 HN1.out).1).trans HN1.out)
  have HM2 := Lib.hid ((hb2.block _ (Array.getElem?_eq_some_iff.1 HM1.out).1).trans HM1.out)
  clear hb2 c0 c1 c2 c3 c4 c5 c6 c7 f0 f1 f2 f3 f4 f5 f6 f7
  obtain ⟨i1, HI1⟩ : ∃ b, Hid (idB D = b) := ⟨_, Lib.hid rfl⟩
  rw [HI1.out]
  cases i1 with
  | false =>
    go_wp2_with fail
    go_ret
    exact ⟨ret_bl (by unfold bndB; rw [HI1.out]; rfl), HB2.out⟩
  | true =>
    obtain ⟨c0, c1, c2, c3, c4, c5, c6, c7⟩ := rowS8 HN2.out
    obtain ⟨f0, f1, f2, f3, f4, f5, f6, f7⟩ := rowS8 HM2.out
    go_wp2_with fail
    refine (rident_any E _ w2 (HE.out.keep HB2.out) HSM2.out).mono ?_
    rintro e w3 ⟨rfl, hb3⟩
    have HB3 := Lib.hid (HB2.out.trans (hb3.mono HB2.out.size))
    have HN3 := Lib.hid ((hb3.block _ (Array.getElem?_eq_some_iff.1 HN2.out).1).trans HN2.out)
    have HM3 := Lib.hid ((hb3.block _ (Array.getElem?_eq_some_iff.1 HM2.out).1).trans HM2.out)
    clear hb3 c0 c1 c2 c3 c4 c5 c6 c7 f0 f1 f2 f3 f4 f5 f6 f7
    obtain ⟨i2, HI2⟩ : ∃ b, Hid (idB E = b) := ⟨_, Lib.hid rfl⟩
    rw [HI2.out]
    cases i2 with
    | false =>
      go_wp2_with fail
      go_ret
      exact ⟨ret_bl (by unfold bndB; rw [HI1.out, HI2.out]; rfl), HB3.out⟩
    | true =>
      obtain ⟨c0, c1, c2, c3, c4, c5, c6, c7⟩ := rowS8 HN3.out
      obtain ⟨f0, f1, f2, f3, f4, f5, f6, f7⟩ := rowS8 HM3.out
      by_cases htx : tx = tx'
      · subst htx
        have hbe : (tx.toList == tx.toList) = true := beq_self_eq_true _
        go_wp2_with fail
        refine (sameintz_any _ _ D.m E.m w3 (HX.out.2.below HB3.out) (HX2.out.2.below HB3.out)).mono ?_
        rintro e w4 ⟨rfl, hb4⟩
        have HB4 := Lib.hid (HB3.out.trans (hb4.mono HB3.out.size))
        have HV : Hid (bndB D E = sameZ D.m E.m) := Lib.hid (by unfold bndB; rw [HI1.out, HI2.out, ← HX.out.1, ← HX2.out.1, decide_eq_true rfl]; rfl)
        clear hb4 c0 c1 c2 c3 c4 c5 c6 c7 f0 f1 f2 f3 f4 f5 f6 f7
        go_wp2_with fail
        go_ret
        exact ⟨ret_bl HV.out.symm, HB4.out⟩
      · have hbe := txt_neB htx
        have HV : Hid (bndB D E = false) := Lib.hid (by unfold bndB; rw [← HX.out.1, ← HX2.out.1, decide_eq_false htx]; simp)
        go_wp2_with fail
        go_ret
        exact ⟨ret_bl HV.out.symm, HB3.out⟩


set_option maxRecDepth 100000 in
theorem slice_tailI (W : World) (a : Option Addr) (n cap u : Nat) (hu : u ≤ n) : (Instr.slice 27 (.slice a n cap) (some (.int .i64 (u : Nat))) none none).run Tryz.prog W = .ok (sliced a u n cap 1) W := by
  have ht : Tryz.prog.underlying 27 = some (.slice (Tryz.prog.elem 27)) := by kernel_rfl
  have hz : ∀ w, (Go.sizeOf (Tryz.prog.elem 27)).run Tryz.prog w = .ok 1 w := fun w => by kernel_rfl
  rw [run_slice_l W 27 _ _ _ ht .i64 _ (by omega) (by omega), hz]
  simp [Result.andThen]
theorem iz_drop {w : World} {mo : Option Addr} {mn mc u : Nat} {ms : List Int} (h : Iz w (.slice mo mn mc) ms) (hu : u ≤ mn) : Iz w (.slice (if mc = u then mo else mo.map (·.add (u * 1))) (mn - u) (mc - u)) (ms.drop u) := by
  obtain ⟨hm, ao, cap2, hv, hc, hr⟩ := h.cases
  injection hv with e1 e2 e3
  subst e1 e2 e3
  rcases hr with ⟨rfl, h0⟩ | ⟨b, off, rfl, hb, hcell⟩
  · simp only [List.length_nil] at hu hc
    obtain rfl : u = 0 := by omega
    cases mo with
    | none =>
      obtain rfl := h0 rfl
      simpa using Iz.nil w
    | some a =>
      split
      · simpa using Iz.empty w a _
      · simpa using Iz.empty w _ _
  · by_cases h1 : mc = u
    · have h2 : ms.drop u = [] := List.drop_of_length_le (by omega)
      rw [if_pos h1, h2, show ms.length - u = 0 by omega]
      exact Iz.empty w _ _
    · rw [if_neg h1]
      simp only [Option.map_some, Addr.add, Nat.mul_one]
      rw [show (if u = 0 then (⟨b, off, none⟩ : Addr) else ⟨b, off + u, none⟩) = ⟨b, off + u, none⟩ from by by_cases h0 : u = 0 <;> simp [h0]]
      refine Iz.mk (zs := ms.drop u) (n := ms.length - u) (cap := mc - u) (b := b) (off := off + u) (List.length_drop (i := u) (l := ms)).symm (by omega) (by omega) hb fun j hj => ?_
      rw [Nat.add_assoc, hcell (u + j) (by omega)]
      congr 2
      unfold gz
      rw [List.getD_eq_getElem?_getD, List.getD_eq_getElem?_getD, List.getElem?_drop]

set_option maxRecDepth 100000 in
set_option maxHeartbeats 4000000 in
/-- Find of the document. -/
theorem rrfind_any (w : World) (Xb : Nat → Prop) (m R : Nat) (es : List En) (h : RrW w Xb m R es) (D : Sx) (us : List Value) (hd : SLay w D us) (hzc : zc D.s ≤ D.m.length) (hsl : D.s.length ≤ 1000) (hml : D.m.length ≤ 1000) (hl : es.length ≤ 1000) (hpos : ∀ x ∈ es, 1 ≤ x.lb ∧ Rg x.ms) :
    Calls Tryz.prog 12 #[.pointer (some ⟨m, 0, none⟩), .agg us.toArray] w fun e w' => e = .returned (.int .i64 (fndL (fun b t => atL es b D.t t) D.s D.m)) ∧ Below w.heap.size w w' := by
  have HR := Lib.hid h
  have HL := Lib.hid hl
  have HPS := Lib.hid hpos
  have HZC := Lib.hid (And.intro hzc (And.intro hsl hml))
  obtain ⟨kx, tx, nx, xo, xn, xc, yo, yn, yc, ax, po, pn, pc, qo, qn, qc, rfl⟩ := sx_shapes hd
  obtain ⟨htx, hmz, hsz⟩ : tx = D.t ∧ Iz w (.slice po pn pc) D.m ∧ Iz w (.slice qo qn qc) D.s := by
    obtain ⟨_, _, _, _, _, he, _, _, _, _, hm, hs, _⟩ := hd.open'
    simp only [List.cons.injEq, and_true] at he
    obtain ⟨_, h1, _, _, _, _, rfl, rfl⟩ := he
    exact ⟨by injection h1, hm, hs⟩
  obtain ⟨rfl, rfl⟩ : pn = D.m.length ∧ qn = D.s.length := by
    obtain ⟨_, _, _, _, e2, _⟩ := hmz
    obtain ⟨_, _, _, _, e3, _⟩ := hsz
    simp only [Value.slice.injEq] at e2 e3
    exact ⟨e2.2.1, e3.2.1⟩
  have HMZ := Lib.hid hmz
  have HSZ := Lib.hid hsz
  have HTX := Lib.hid htx
  clear h hl hpos hzc hsl hml hd hmz hsz htx
  have hb1 := below1 w (.cells #[.int .i64 kx, .string tx, .bool nx, .slice xo xn xc, .slice yo yn yc, .int .i64 ax, .slice po D.m.length pc, .slice qo D.s.length qc] 29)
  have hx1 := heap_alloc_new w (.cells #[.int .i64 kx, .string tx, .bool nx, .slice xo xn xc, .slice yo yn yc, .int .i64 ax, .slice po D.m.length pc, .slice qo D.s.length qc] 29)
  show Calls Tryz.prog 12 #[.pointer (some ⟨m, 0, none⟩), .agg #[.int .i64 kx, .string tx, .bool nx, .slice xo xn xc, .slice yo yn yc, .int .i64 ax, .slice po D.m.length pc, .slice qo D.s.length qc]] w _
  go_enter Tryz.func12, Tryz.ntmps12
  go_upto_region 1 with fail
  generalize w.alloc (.cells #[.int .i64 kx, .string tx, .bool nx, .slice xo xn xc, .slice yo yn yc, .int .i64 ax, .slice po D.m.length pc, .slice qo D.s.length qc] 29) = w1 at *
  have HB1 := Lib.hid hb1
  have HX1 := Lib.hid hx1
  clear hb1 hx1
  go_wp2_with fail
  go_loopw [5, 6] (fun v i wr => ∃ (u k : Nat), v = .int .i64 (u : Nat) ∧ i = .int .i64 (k : Nat) ∧ k ≤ D.s.length ∧ u = zc (D.s.take k) ∧ Below w1.heap.size w1 wr ∧ fndL (fun b t => atL es b D.t t) D.s D.m = fndL (fun b t => atL es b D.t t) (D.s.drop k) (D.m.drop u)) (fun _ i _ => D.s.length - (intOf i).toNat)
  case atStart => exact ⟨0, 0, rfl, rfl, Nat.zero_le _, by simp [zc], Below.refl _ _, by simp⟩
  case round =>
    obtain ⟨u, i, rfl, rfl, hi, hu, hb, hf⟩ := hrel
    have HBR := Lib.hid (HB1.out.trans (hb.mono HB1.out.size))
    have HB1R := Lib.hid hb
    have HXR := Lib.hid ((hb.block _ (Array.getElem?_eq_some_iff.1 HX1.out).1).trans HX1.out)
    have HF := Lib.hid hf
    have HU := Lib.hid hu
    have HUL : Hid (u ≤ D.m.length) := Lib.hid (by have := zc_take_le D.s i; have := HZC.out.1; omega)
    clear hb hf hu
    have HLT := Lib.hid (Array.getElem?_eq_some_iff.1 HXR.out).1
    obtain ⟨c0, c1, c2, c3, c4, c5, c6, c7⟩ := rowS8 HXR.out
    by_cases his : i < D.s.length
    · have hii : ((i : Nat) : Int) < ((D.s.length : Nat) : Int) := by omega
      have hsl2 := HZC.out.2.1
      have hu3 : u ≤ 1000 := Nat.le_trans HUL.out HZC.out.2.2
      have hsz := HSZ.out.below HBR.out
      obtain ⟨_, ao, cp, hv, hcc, hcase⟩ := hsz.cases
      injection hv with e1 e2 e3
      subst e1 e3
      rcases hcase with ⟨h0, _⟩ | ⟨sb, so, rfl, hsb, hcell⟩
      · rw [h0] at his; simp at his
      have p0 := hcell i his
      have HCS : Hid (∀ W, Below wr.heap.size wr W → W.cell? ⟨sb, so + i, none⟩ = some (.int .i64 (gz D.s i))) := Lib.hid fun W hW => (hW.cell hsb).trans p0
      have HII := Lib.hid hii
      clear hsz hcell hcc
      by_cases hz : gz D.s i = 0
      · have hz2 : (gz D.s i == 0) = true := by rw [hz]; rfl
        have HST : Hid (fndL (fun b t => atL es b D.t t) (D.s.drop i) (D.m.drop u) = fndL (fun b t => atL es b D.t t) (D.s.drop (i + 1)) (D.m.drop (u + 1))) := Lib.hid (fnd_zero his hz)
        have HZS : Hid (u + 1 = zc (D.s.take (i + 1))) := Lib.hid (by rw [zc_step his, if_pos hz, HU.out])
        clear hz
        go_wp2_with fail
        go_roundw
        case measure => simp only [intOf]; omega
        case rel => exact ⟨u + 1, i + 1, by go_num, by go_num, by omega, HZS.out, HB1R.out, HF.out.trans HST.out⟩
      · have hz2 : (gz D.s i == 0) = false := by simpa using hz
        have HZS : Hid (u = zc (D.s.take (i + 1))) := Lib.hid (by rw [zc_step his, if_neg hz, HU.out]; rfl)
        have HZ := Lib.hid hz
        clear hz
        obtain ⟨z, HZV⟩ : ∃ z, Hid (atL es (gz D.s i) tx (D.m.drop u) = z) := ⟨_, Lib.hid rfl⟩
        go_upto_region 7 with fail
        clear hz2 p0 c0 c1 c2 c3 c4 c5 c6 c7 hii
        refine wp_region_slotsG (psi [isV (.pointer (some ⟨m, 0, none⟩)), isV (.pointer (some ⟨w.heap.size, 7, none⟩)), isV (.slice (some ⟨sb, so, none⟩) D.s.length qc), isV (.int .i64 (i : Nat)), isV (.pointer (some ⟨sb, so + i, none⟩)), isV (.int .i64 (gz D.s i)), isV (.pointer (some ⟨w.heap.size, 1, none⟩)), isV (.string tx), isV (.pointer (some ⟨w.heap.size, 6, none⟩)), isV (.slice po D.m.length pc), isV (.int .i64 (u : Nat)), isV (.slice (if pc = u then po else po.map (·.add (u * 1))) (D.m.length - u) (pc - u)), isV (.int .i64 z), isV (.int .i64 z)]) (fun W => Below wr.heap.size wr W) (by kernel_rfl) (Below.refl _ _).drew (psi_mono ?_) (by kernel_rfl) (by kernel_rfl) ?_ ?_
        · intro pq hp
          simp only [List.mem_cons, List.not_mem_nil, or_false] at hp
          (repeat' rcases hp with rfl | hp) <;> first | exact isV_stays _ | (subst hp; exact isV_stays _)
        · refine AllOps.cons ?_ ?_
          · intro ab W hC hB hdep
            refine .inl ⟨rfl, ?_⟩
            have b0 : ab.tmps.getD 0 undef = .pointer (some ⟨m, 0, none⟩) := hB.off 0 (by kernel_rfl)
            clear hB hdep
            refine goes_value (v := .pointer (some ⟨m, 0, none⟩)) ?_ hC rfl
            simp only [execOp, Act.eval, b0]
            go_simp
          refine AllOps.cons ?_ ?_
          · intro ab W hC hB hdep
            refine .inl ⟨rfl, ?_⟩
            have b0 : ab.tmps.getD 3 undef = .pointer (some ⟨w.heap.size, 0, none⟩) := hB.off 3 (by kernel_rfl)
            clear hB hdep
            refine goes_value (v := .pointer (some ⟨w.heap.size, 7, none⟩)) ?_ hC rfl
            simp only [execOp, Act.eval, b0]
            go_simp
          refine AllOps.cons ?_ ?_
          · intro ab W hC hB hdep
            refine .inl ⟨rfl, ?_⟩
            obtain ⟨x0, (q0 : (isV (.pointer (some ⟨w.heap.size, 7, none⟩))) x0 W), e0⟩ := hdep 1 24 (by kernel_rfl)
            obtain rfl : x0 = .pointer (some ⟨w.heap.size, 7, none⟩) := q0
            obtain ⟨c0, c1, c2, c3, c4, c5, c6, c7⟩ := rowS8 ((hC.block _ HLT.out).trans HXR.out)
            clear hB hdep
            refine goes_value (v := .slice (some ⟨sb, so, none⟩) D.s.length qc) ?_ hC rfl
            simp only [execOp, Act.eval, e0]
            go_simp
          refine AllOps.cons ?_ ?_
          · intro ab W hC hB hdep
            refine .inl ⟨rfl, ?_⟩
            have b0 : ab.tmps.getD 6 undef = .int .i64 (i : Nat) := hB.off 6 (by kernel_rfl)
            clear hB hdep
            refine goes_value (v := .int .i64 (i : Nat)) ?_ hC rfl
            simp only [execOp, Act.eval, b0]
            go_simp
          refine AllOps.cons ?_ ?_
          · intro ab W hC hB hdep
            refine .inl ⟨rfl, ?_⟩
            obtain ⟨x0, (q0 : (isV (.slice (some ⟨sb, so, none⟩) D.s.length qc)) x0 W), e0⟩ := hdep 2 25 (by kernel_rfl)
            obtain rfl : x0 = .slice (some ⟨sb, so, none⟩) D.s.length qc := q0
            obtain ⟨x1, (q1 : (isV (.int .i64 (i : Nat))) x1 W), e1⟩ := hdep 3 26 (by kernel_rfl)
            obtain rfl : x1 = .int .i64 (i : Nat) := q1
            have hii := HII.out
            clear hB hdep
            refine goes_value (v := .pointer (some ⟨sb, so + i, none⟩)) ?_ hC rfl
            simp only [execOp, Act.eval, e0, e1]
            go_simp
          refine AllOps.cons ?_ ?_
          · intro ab W hC hB hdep
            refine .inl ⟨rfl, ?_⟩
            obtain ⟨x0, (q0 : (isV (.pointer (some ⟨sb, so + i, none⟩))) x0 W), e0⟩ := hdep 4 27 (by kernel_rfl)
            obtain rfl : x0 = .pointer (some ⟨sb, so + i, none⟩) := q0
            have p0 := HCS.out W hC
            clear hB hdep
            refine goes_value (v := .int .i64 (gz D.s i)) ?_ hC rfl
            simp only [execOp, Act.eval, e0]
            go_simp
          refine AllOps.cons ?_ ?_
          · intro ab W hC hB hdep
            refine .inl ⟨rfl, ?_⟩
            have b0 : ab.tmps.getD 3 undef = .pointer (some ⟨w.heap.size, 0, none⟩) := hB.off 3 (by kernel_rfl)
            clear hB hdep
            refine goes_value (v := .pointer (some ⟨w.heap.size, 1, none⟩)) ?_ hC rfl
            simp only [execOp, Act.eval, b0]
            go_simp
          refine AllOps.cons ?_ ?_
          · intro ab W hC hB hdep
            refine .inl ⟨rfl, ?_⟩
            obtain ⟨x0, (q0 : (isV (.pointer (some ⟨w.heap.size, 1, none⟩))) x0 W), e0⟩ := hdep 6 29 (by kernel_rfl)
            obtain rfl : x0 = .pointer (some ⟨w.heap.size, 1, none⟩) := q0
            obtain ⟨c0, c1, c2, c3, c4, c5, c6, c7⟩ := rowS8 ((hC.block _ HLT.out).trans HXR.out)
            clear hB hdep
            refine goes_value (v := .string tx) ?_ hC rfl
            simp only [execOp, Act.eval, e0]
            go_simp
          refine AllOps.cons ?_ ?_
          · intro ab W hC hB hdep
            refine .inl ⟨rfl, ?_⟩
            have b0 : ab.tmps.getD 3 undef = .pointer (some ⟨w.heap.size, 0, none⟩) := hB.off 3 (by kernel_rfl)
            clear hB hdep
            refine goes_value (v := .pointer (some ⟨w.heap.size, 6, none⟩)) ?_ hC rfl
            simp only [execOp, Act.eval, b0]
            go_simp
          refine AllOps.cons ?_ ?_
          · intro ab W hC hB hdep
            refine .inl ⟨rfl, ?_⟩
            obtain ⟨x0, (q0 : (isV (.pointer (some ⟨w.heap.size, 6, none⟩))) x0 W), e0⟩ := hdep 8 31 (by kernel_rfl)
            obtain rfl : x0 = .pointer (some ⟨w.heap.size, 6, none⟩) := q0
            obtain ⟨c0, c1, c2, c3, c4, c5, c6, c7⟩ := rowS8 ((hC.block _ HLT.out).trans HXR.out)
            clear hB hdep
            refine goes_value (v := .slice po D.m.length pc) ?_ hC rfl
            simp only [execOp, Act.eval, e0]
            go_simp
          refine AllOps.cons ?_ ?_
          · intro ab W hC hB hdep
            refine .inl ⟨rfl, ?_⟩
            have b0 : ab.tmps.getD 5 undef = .int .i64 (u : Nat) := hB.off 5 (by kernel_rfl)
            clear hB hdep
            refine goes_value (v := .int .i64 (u : Nat)) ?_ hC rfl
            simp only [execOp, Act.eval, b0]
            go_simp
          refine AllOps.cons ?_ ?_
          · intro ab W hC hB hdep
            refine .inl ⟨rfl, ?_⟩
            obtain ⟨x0, (q0 : (isV (.slice po D.m.length pc)) x0 W), e0⟩ := hdep 9 32 (by kernel_rfl)
            obtain rfl : x0 = .slice po D.m.length pc := q0
            obtain ⟨x1, (q1 : (isV (.int .i64 (u : Nat))) x1 W), e1⟩ := hdep 10 33 (by kernel_rfl)
            obtain rfl : x1 = .int .i64 (u : Nat) := q1
            have hsl := slice_tailI W po D.m.length pc u HUL.out; simp only [sliced] at hsl
            clear hB hdep
            refine goes_value (v := .slice (if pc = u then po else po.map (·.add (u * 1))) (D.m.length - u) (pc - u)) ?_ hC rfl
            simp only [execOp, Act.eval, e0, e1]
            go_simp
          refine AllOps.cons ?_ ?_
          · intro ab W hC hB hdep
            refine .inl ⟨rfl, ?_⟩
            obtain ⟨x0, (q0 : (isV (.pointer (some ⟨m, 0, none⟩))) x0 W), e0⟩ := hdep 0 23 (by kernel_rfl)
            obtain rfl : x0 = .pointer (some ⟨m, 0, none⟩) := q0
            obtain ⟨x1, (q1 : (isV (.int .i64 (gz D.s i))) x1 W), e1⟩ := hdep 5 28 (by kernel_rfl)
            obtain rfl : x1 = .int .i64 (gz D.s i) := q1
            obtain ⟨x2, (q2 : (isV (.string tx)) x2 W), e2⟩ := hdep 7 30 (by kernel_rfl)
            obtain rfl : x2 = .string tx := q2
            obtain ⟨x3, (q3 : (isV (.slice (if pc = u then po else po.map (·.add (u * 1))) (D.m.length - u) (pc - u))) x3 W), e3⟩ := hdep 11 34 (by kernel_rfl)
            obtain rfl : x3 = .slice (if pc = u then po else po.map (·.add (u * 1))) (D.m.length - u) (pc - u) := q3
            clear hB hdep
            refine goes_call (f := 26) (args := #[.pointer (some ⟨m, 0, none⟩), .int .i64 (gz D.s i), .string tx, .slice (if pc = u then po else po.map (·.add (u * 1))) (D.m.length - u) (pc - u)]) ?_ ?_
            · simp only [execOp]
              go_simp
            · exact (rat_any W Xb m R es (HR.out.below (HBR.out.trans (hC.mono HBR.out.size))) (gz D.s i) tx _ (D.m.drop u) (iz_drop (HMZ.out.below (HBR.out.trans (hC.mono HBR.out.size))) HUL.out) HL.out).mono fun e w7 ⟨he, hb⟩ => ⟨_, he, hC.trans (hb.mono hC.size), hb, by show Value.int _ _ = _; rw [HZV.out]⟩
          refine AllOps.cons ?_ ?_
          · intro ab W hC hB hdep
            refine .inl ⟨rfl, ?_⟩
            obtain ⟨x0, (q0 : (isV (.int .i64 z)) x0 W), e0⟩ := hdep 12 35 (by kernel_rfl)
            obtain rfl : x0 = .int .i64 z := q0
            clear hB hdep
            refine goes_value (v := .int .i64 z) ?_ hC rfl
            simp only [execOp, Act.eval, e0]
            go_simp
          exact trivial
        · intro aa w8 hC hB hall
          obtain ⟨v0, (k0 : v0 = .pointer (some ⟨m, 0, none⟩)), e0⟩ := hall 0 _ rfl
          obtain ⟨v1, (k1 : v1 = .pointer (some ⟨w.heap.size, 7, none⟩)), e1⟩ := hall 1 _ rfl
          obtain ⟨v2, (k2 : v2 = .slice (some ⟨sb, so, none⟩) D.s.length qc), e2⟩ := hall 2 _ rfl
          obtain ⟨v3, (k3 : v3 = .int .i64 (i : Nat)), e3⟩ := hall 3 _ rfl
          obtain ⟨v4, (k4 : v4 = .pointer (some ⟨sb, so + i, none⟩)), e4⟩ := hall 4 _ rfl
          obtain ⟨v5, (k5 : v5 = .int .i64 (gz D.s i)), e5⟩ := hall 5 _ rfl
          obtain ⟨v6, (k6 : v6 = .pointer (some ⟨w.heap.size, 1, none⟩)), e6⟩ := hall 6 _ rfl
          obtain ⟨v7, (k7 : v7 = .string tx), e7⟩ := hall 7 _ rfl
          obtain ⟨v8, (k8 : v8 = .pointer (some ⟨w.heap.size, 6, none⟩)), e8⟩ := hall 8 _ rfl
          obtain ⟨v9, (k9 : v9 = .slice po D.m.length pc), e9⟩ := hall 9 _ rfl
          obtain ⟨v10, (k10 : v10 = .int .i64 (u : Nat)), e10⟩ := hall 10 _ rfl
          obtain ⟨v11, (k11 : v11 = .slice (if pc = u then po else po.map (·.add (u * 1))) (D.m.length - u) (pc - u)), e11⟩ := hall 11 _ rfl
          obtain ⟨v12, (k12 : v12 = .int .i64 z), e12⟩ := hall 12 _ rfl
          obtain ⟨v13, (k13 : v13 = .int .i64 z), e13⟩ := hall 13 _ rfl
          subst k0 k1 k2 k3 k4 k5 k6 k7 k8 k9 k10 k11 k12 k13
          have hv : ∀ pq ∈ [((23 : Nat), (.pointer (some ⟨m, 0, none⟩) : Value)), ((24 : Nat), (.pointer (some ⟨w.heap.size, 7, none⟩) : Value)), ((25 : Nat), (.slice (some ⟨sb, so, none⟩) D.s.length qc : Value)), ((26 : Nat), (.int .i64 (i : Nat) : Value)), ((27 : Nat), (.pointer (some ⟨sb, so + i, none⟩) : Value)), ((28 : Nat), (.int .i64 (gz D.s i) : Value)), ((29 : Nat), (.pointer (some ⟨w.heap.size, 1, none⟩) : Value)), ((30 : Nat), (.string tx : Value)), ((31 : Nat), (.pointer (some ⟨w.heap.size, 6, none⟩) : Value)), ((32 : Nat), (.slice po D.m.length pc : Value)), ((33 : Nat), (.int .i64 (u : Nat) : Value)), ((34 : Nat), (.slice (if pc = u then po else po.map (·.add (u * 1))) (D.m.length - u) (pc - u) : Value)), ((35 : Nat), (.int .i64 z : Value)), ((7 : Nat), (.int .i64 z : Value))], aa.tmps.getD pq.1 undef = pq.2 := by
            intro pq hp
            simp only [List.mem_cons, List.not_mem_nil, or_false] at hp
            rcases hp with rfl | rfl | rfl | rfl | rfl | rfl | rfl | rfl | rfl | rfl | rfl | rfl | rfl | rfl
            · exact e0 _ rfl
            · exact e1 _ rfl
            · exact e2 _ rfl
            · exact e3 _ rfl
            · exact e4 _ rfl
            · exact e5 _ rfl
            · exact e6 _ rfl
            · exact e7 _ rfl
            · exact e8 _ rfl
            · exact e9 _ rfl
            · exact e10 _ rfl
            · exact e11 _ rfl
            · exact e12 _ rfl
            · exact e13 _ rfl
          have hact := act_fold _ hB hv (by kernel_rfl)
          subst hact
          clear hv hall hB e0 e1 e2 e3 e4 e5 e6 e7 e8 e9 e10 e11 e12 e13
          refine (‹∀ (a : Act) (w : World), Code.wp Tryz.prog _ _ a w → _›) _ w8 ?_
          simp only [List.foldl, List.setIfInBounds_toArray, List.set_cons_succ, List.set_cons_zero]
          have HC := Lib.hid hC
          clear hC
          have hp := atL_pos HPS.out (gz D.s i) tx (D.m.drop u)
          rw [HZV.out] at hp
          rcases hp with ⟨hp, _⟩ | ⟨hp, _⟩
          · subst hp
            have HST : Hid (fndL (fun b t => atL es b D.t t) (D.s.drop i) (D.m.drop u) = fndL (fun b t => atL es b D.t t) (D.s.drop (i + 1)) (D.m.drop u)) := Lib.hid (fnd_miss his HZ.out (by have := HZV.out; rw [HTX.out] at this; exact this))
            have hii := HII.out
            go_wp2_with fail
            go_roundw
            case measure => simp only [intOf]; omega
            case rel => exact ⟨u, i + 1, rfl, by go_num, by omega, HZS.out, HB1R.out.trans (HC.out.mono HB1R.out.size), HF.out.trans HST.out⟩
          · have hgt : decide (0 < z) = true := decide_eq_true (by omega)
            have HST : Hid (fndL (fun b t => atL es b D.t t) (D.s.drop i) (D.m.drop u) = z) := Lib.hid ((fnd_hit his HZ.out (by have := HZV.out; rw [HTX.out] at this; show atL es _ _ _ ≠ 0; omega)).trans (by have := HZV.out; rw [HTX.out] at this; exact this))
            have HE := Lib.hid (HF.out.trans HST.out)
            clear hp
            go_wp2_with fail
            all_goals go_ret
            all_goals exact ⟨ret_int HE.out.symm, HBR.out.trans (HC.out.mono HBR.out.size)⟩
    · obtain rfl : D.s.length = i := by omega
      have HE : Hid (fndL (fun b t => atL es b D.t t) D.s D.m = 0) := Lib.hid (by rw [HF.out, List.drop_of_length_le (Nat.le_refl _)]; rfl)
      go_wp2_with fail
      go_ret
      exact ⟨ret_int HE.out.symm, HBR.out⟩
end Go.Proofs.YtegengnffdlplaaGreatDoor
