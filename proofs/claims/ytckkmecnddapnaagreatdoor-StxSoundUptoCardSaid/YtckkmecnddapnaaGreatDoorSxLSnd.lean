/- StxSound: which pieces may be, what their datum is, and which are identifiers. Of any piece. -/
import Derived.Test.YtckkmecnddapnaaGreatDoorSxOf
import Derived.Test.YtckkmecnddapnaaGreatDoorSxStr
import Derived.Test.YtckkmecnddapnaaGreatDoorSxLight
import Derived.Test.YtckkmecnddapnaaGreatDoorDmSame
namespace Go.Proofs.YtckkmecnddapnaaGreatDoor
open Go.RowKit

/-- A piece of syntax that lies somewhere. -/
def isOw (D : Sx) : Value → World → Prop := fun v W => ∃ us, v = .agg us.toArray ∧ SLay W D us
theorem isOw_stays (D : Sx) : Stays (isOw D) := fun _ _ _ hb ⟨us, h1, h2⟩ => ⟨us, h1, h2.keep hb⟩

set_option maxRecDepth 100000 in
set_option maxHeartbeats 16000000 in
theorem stxsound_any (D : Sx) (us : List Value) (w : World) (hd : SLay w D us) (hsm : SmS 1100000 D) (ht : Tabs w) :
    Calls Tryz.prog 3 #[.agg us.toArray] w fun e w' => e = .returned (.bool true) ∧ Below w.heap.size w w' := by
  have HD := Lib.hid hd
  have HSM := Lib.hid hsm
  have HT := Lib.hid ht
  obtain ⟨kx, tx, nx, xo, xn, xc, yo, yn, yc, ax, po, pn, pc, qo, qn, qc, rfl⟩ := sx_shapes hd
  clear hd hsm ht
  have hb1 := below1 w (.cells #[.int .i64 kx, .string tx, .bool nx, .slice xo xn xc, .slice yo yn yc, .int .i64 ax, .slice po pn pc, .slice qo qn qc] 28)
  have hn1 := heap_alloc_new w (.cells #[.int .i64 kx, .string tx, .bool nx, .slice xo xn xc, .slice yo yn yc, .int .i64 ax, .slice po pn pc, .slice qo qn qc] 28)
  show Calls Tryz.prog 3 #[.agg #[.int .i64 kx, .string tx, .bool nx, .slice xo xn xc, .slice yo yn yc, .int .i64 ax, .slice po pn pc, .slice qo qn qc]] w _
  go_enter Tryz.func3, Tryz.ntmps3
  go_upto_region 1 with fail
  generalize w.alloc (.cells #[.int .i64 kx, .string tx, .bool nx, .slice xo xn xc, .slice yo yn yc, .int .i64 ax, .slice po pn pc, .slice qo qn qc] 28) = w1 at *
  have HB1 := Lib.hid hb1
  have HN1 := Lib.hid hn1
  clear hb1 hn1
  go_wp2_with fail
  refine (answers10_any w1 (HT.out.below HB1.out (Nat.le_refl _))).mono ?_
  rintro e w2 ⟨rfl, hb⟩
  have HB2 := Lib.hid (HB1.out.trans (hb.mono HB1.out.size))
  have HN2 := Lib.hid ((hb.block _ (Array.getElem?_eq_some_iff.1 HN1.out).1).trans HN1.out)
  clear hb
  obtain ⟨c0, c1, c2, c3, c4, c5, c6, c7⟩ := rowS8 (HN2.out)
  go_wp2_with fail
  refine (light_sx 100 D _ w2 1 (by omega) (by omega) (HD.out.keep HB2.out)).mono ?_
  rintro e w3 ⟨rfl, hb⟩
  have HB3 := Lib.hid (HB2.out.trans (hb.mono HB2.out.size))
  have HN3 := Lib.hid ((hb.block _ (Array.getElem?_eq_some_iff.1 HN2.out).1).trans HN2.out)
  clear hb c0 c1 c2 c3 c4 c5 c6 c7
  obtain ⟨l0, HL0⟩ : ∃ b, Hid (lightS 100 D = b) := ⟨_, Lib.hid rfl⟩
  rw [HL0.out]
  cases l0 with
  | false =>
    go_wp2_with fail
    refine (answers10_any w3 (HT.out.below HB3.out (Nat.le_refl _))).mono ?_
    rintro e w4 ⟨rfl, hb⟩
    have HB4 := Lib.hid (HB3.out.trans (hb.mono HB3.out.size))
    clear hb
    go_wp2_with fail
    go_ret
    exact ⟨rfl, HB4.out⟩
  | true =>
    cases hs : sndX D with
    | true =>
      have HS := Lib.hid hs
      clear hs
      obtain ⟨c0, c1, c2, c3, c4, c5, c6, c7⟩ := rowS8 (HN3.out)
      go_wp2_with fail
      refine (own_sxK D HSM.out.owk _ w3 (HD.out.keep HB3.out)).mono ?_
      rintro e w4 ⟨vs, rfl, hl, hb⟩
      have HB4 := Lib.hid (HB3.out.trans (hb.mono HB3.out.size))
      have HN4 := Lib.hid ((hb.block _ (Array.getElem?_eq_some_iff.1 HN3.out).1).trans HN3.out)
      have HL4 := Lib.hid hl.lay
      clear hb hl c0 c1 c2 c3 c4 c5 c6 c7
      go_wp2_with fail
      refine (strip_any D vs w4 HL4.out HSM.out (HT.out.below HB4.out (Nat.le_refl _))).mono ?_
      rintro e w5 ⟨y0, y1, y2, ro, rn, rc, so, sn, sc, y5, rfl, hyes, hb⟩
      simp only [HS.out, if_true]
      have ha := below1 w5 (.cells #[.int .i64 y0, .string y1, .bool y2, .slice ro rn rc, .slice so sn sc, .int .i64 y5] 33)
      have hx := heap_alloc_new w5 (.cells #[.int .i64 y0, .string y1, .bool y2, .slice ro rn rc, .slice so sn sc, .int .i64 y5] 33)
      have hh := hb.trans (ha.mono hb.size)
      have HB6 := Lib.hid (HB4.out.trans (hh.mono HB4.out.size))
      have HN6 := Lib.hid ((hh.block _ (Array.getElem?_eq_some_iff.1 HN4.out).1).trans HN4.out)
      have HDL := Lib.hid (fun h => (hyes h).keep ha)
      have HDB := Lib.hid hx
      go_upto_region 4 with fail
      generalize w5.alloc (.cells #[.int .i64 y0, .string y1, .bool y2, .slice ro rn rc, .slice so sn sc, .int .i64 y5] 33) = w6 at *
      obtain ⟨db, hdb⟩ : ∃ b, w5.heap.size = b := ⟨_, rfl⟩
      rw [hdb] at HDB ⊢
      clear hyes hb ha hx hh hdb
      obtain ⟨c0, c1, c2, c3, c4, c5, c6, c7⟩ := rowS8 (HN6.out)
      go_wp2_with fail
      refine (rstrip_any D _ w6 (HD.out.keep HB6.out) HSM.out).mono ?_
      clear c0 c1 c2 c3 c4 c5 c6 c7
      rintro e w7 ⟨y0', y1', y2', ro', rn', rc', so', sn', sc', y5', rfl, hyes, hb⟩
      simp only [HS.out, if_true]
      have ha := below1 w7 (.cells #[.int .i64 y0', .string y1', .bool y2', .slice ro' rn' rc', .slice so' sn' sc', .int .i64 y5'] 33)
      have hx := heap_alloc_new w7 (.cells #[.int .i64 y0', .string y1', .bool y2', .slice ro' rn' rc', .slice so' sn' sc', .int .i64 y5'] 33)
      have hh := hb.trans (ha.mono hb.size)
      have HB8 := Lib.hid (HB6.out.trans (hh.mono HB6.out.size))
      have HN8 := Lib.hid ((hh.block _ (Array.getElem?_eq_some_iff.1 HN6.out).1).trans HN6.out)
      have HDL2 := Lib.hid (fun h => (HDL.out h).keep hh)
      have HDB2 := Lib.hid ((hh.block _ (Array.getElem?_eq_some_iff.1 HDB.out).1).trans HDB.out)
      have HKL := Lib.hid (fun h => (hyes h).keep ha)
      have HKB := Lib.hid hx
      go_upto_region 5 with fail
      generalize w7.alloc (.cells #[.int .i64 y0', .string y1', .bool y2', .slice ro' rn' rc', .slice so' sn' sc', .int .i64 y5'] 33) = w8 at *
      obtain ⟨kb, hkb⟩ : ∃ b, w7.heap.size = b := ⟨_, rfl⟩
      rw [hkb] at HKB ⊢
      clear hyes hb ha hx hh hkb
      have HB9 := Lib.hid HB8.out
      have HN9 := Lib.hid HN8.out
      have HLT := Lib.hid (Array.getElem?_eq_some_iff.1 HN9.out).1
      clear HDB HDL
      have HDB := Lib.hid HDB2.out
      have HDL := Lib.hid (HDL2.out HS.out)
      have HKL2 := Lib.hid (HKL.out HS.out)
      clear HKL
      have HKL := Lib.hid HKL2.out
      obtain ⟨i0, HI⟩ : ∃ b, Hid (idB D = b) := ⟨_, Lib.hid rfl⟩
      by_cases hk1 : 1 ≤ kx
      · obtain ⟨cz, hcz⟩ : ∃ b, decide (kx ≤ 3) = b := ⟨_, rfl⟩
        have HK : Hid (cpdB kx = cz) := Lib.hid (by rw [← hcz]; unfold cpdB; simp [hk1])
        have hk3 : decide (1 ≤ kx) = true := by simpa using hk1
        refine wp_region_slotsG (psi [isV (.agg #[.int .i64 kx, .string tx, .bool nx, .slice xo xn xc, .slice yo yn yc, .int .i64 ax, .slice po pn pc, .slice qo qn qc]), isOw D, isV (.bool true), isV (.agg #[.int .i64 kx, .string tx, .bool nx, .slice xo xn xc, .slice yo yn yc, .int .i64 ax, .slice po pn pc, .slice qo qn qc]), isV (.bool true), isV (.bool true), isV (.bool true), isV (.agg #[.int .i64 kx, .string tx, .bool nx, .slice xo xn xc, .slice yo yn yc, .int .i64 ax, .slice po pn pc, .slice qo qn qc]), isOw D, isV (.bool i0), isV (.agg #[.int .i64 kx, .string tx, .bool nx, .slice xo xn xc, .slice yo yn yc, .int .i64 ax, .slice po pn pc, .slice qo qn qc]), isV (.bool i0), isV (.bool true), isV (.bool true), isV (.bool true), isV (.int .i64 0), isV (.int .i64 0), isV (.bool true), isV (.bool true), isV (.bool true), isV (.int .i64 0), isV (.bool false), isV (.bool false), isV (.agg #[.int .i64 y0, .string y1, .bool y2, .slice ro rn rc, .slice so sn sc, .int .i64 y5]), isV (.agg #[.int .i64 y0', .string y1', .bool y2', .slice ro' rn' rc', .slice so' sn' sc', .int .i64 y5']), isV (.bool true), isV (.bool true), isV (.bool true), isV (.bool true), isV (.agg #[.int .i64 kx, .string tx, .bool nx, .slice xo xn xc, .slice yo yn yc, .int .i64 ax, .slice po pn pc, .slice qo qn qc]), isV (.bool cz), isV (.pointer (some ⟨w.heap.size, 0, none⟩)), isV (.int .i64 kx), isV (.bool true), isV (.bool true), isV (.pointer (some ⟨w.heap.size, 0, none⟩)), isV (.int .i64 kx), isV (.bool cz), isV (.bool cz), isV (.bool true), isV (.bool true), isV (.bool true)]) (fun W => Below w8.heap.size w8 W) (by kernel_rfl) (Below.refl _ _).drew (psi_mono ?_) (by kernel_rfl) (by kernel_rfl) ?_ ?_
        · intro pq hp
          simp only [List.mem_cons, List.not_mem_nil, or_false] at hp
          (repeat' rcases hp with rfl | hp) <;> first | exact isV_stays _ | (subst hp; exact isV_stays _) | exact isOw_stays _ | (subst hp; exact isOw_stays _)
        · refine AllOps.cons ?_ ?_
          · intro ab W hC hB hdep
            refine .inl ⟨rfl, ?_⟩
            have b0 : ab.tmps.getD 1 undef = .pointer (some ⟨w.heap.size, 0, none⟩) := hB.off 1 (by kernel_rfl)
            obtain ⟨c0, c1, c2, c3, c4, c5, c6, c7⟩ := rowS8 ((hC.block _ HLT.out).trans HN9.out)
            clear hB hdep
            refine goes_value (v := .agg #[.int .i64 kx, .string tx, .bool nx, .slice xo xn xc, .slice yo yn yc, .int .i64 ax, .slice po pn pc, .slice qo qn qc]) ?_ hC rfl
            simp only [execOp, Act.eval, b0]
            go_simp
          refine AllOps.cons ?_ ?_
          · intro ab W hC hB hdep
            refine .inl ⟨rfl, ?_⟩
            obtain ⟨x0, (q0 : (isV (.agg #[.int .i64 kx, .string tx, .bool nx, .slice xo xn xc, .slice yo yn yc, .int .i64 ax, .slice po pn pc, .slice qo qn qc])) x0 W), e0⟩ := hdep 0 26 (by kernel_rfl)
            obtain rfl : x0 = .agg #[.int .i64 kx, .string tx, .bool nx, .slice xo xn xc, .slice yo yn yc, .int .i64 ax, .slice po pn pc, .slice qo qn qc] := q0
            clear hB hdep
            refine goes_call (f := 11) (args := #[.agg #[.int .i64 kx, .string tx, .bool nx, .slice xo xn xc, .slice yo yn yc, .int .i64 ax, .slice po pn pc, .slice qo qn qc]]) ?_ ?_
            · simp only [execOp]
              go_simp
            · exact (own_sxK D HSM.out.owk _ W (HD.out.keep (HB9.out.trans (hC.mono HB9.out.size)))).mono fun e w7 ⟨vs, he, hl, hb⟩ => ⟨_, he, hC.trans (hb.mono hC.size), hb, ⟨vs, rfl, hl.lay⟩⟩
          refine AllOps.cons ?_ ?_
          · intro ab W hC hB hdep
            refine .inl ⟨rfl, ?_⟩
            obtain ⟨x0, (q0 : (isOw D) x0 W), e0⟩ := hdep 1 27 (by kernel_rfl)
            skip
            clear hB hdep
            refine goes_call (f := 13) (args := #[x0]) ?_ ?_
            · simp only [execOp]
              go_simp
            · obtain ⟨ua, rfl, hla⟩ := q0
              exact (xsound_any D ua W hla HSM.out (HT.out.below (HB9.out.trans (hC.mono HB9.out.size)) (Nat.le_refl _))).mono fun e w7 ⟨he, hb⟩ => ⟨_, he, hC.trans (hb.mono hC.size), hb, by show Value.bool _ = _; rw [HS.out]⟩
          refine AllOps.cons ?_ ?_
          · intro ab W hC hB hdep
            refine .inl ⟨rfl, ?_⟩
            have b0 : ab.tmps.getD 1 undef = .pointer (some ⟨w.heap.size, 0, none⟩) := hB.off 1 (by kernel_rfl)
            obtain ⟨c0, c1, c2, c3, c4, c5, c6, c7⟩ := rowS8 ((hC.block _ HLT.out).trans HN9.out)
            clear hB hdep
            refine goes_value (v := .agg #[.int .i64 kx, .string tx, .bool nx, .slice xo xn xc, .slice yo yn yc, .int .i64 ax, .slice po pn pc, .slice qo qn qc]) ?_ hC rfl
            simp only [execOp, Act.eval, b0]
            go_simp
          refine AllOps.cons ?_ ?_
          · intro ab W hC hB hdep
            refine .inl ⟨rfl, ?_⟩
            obtain ⟨x0, (q0 : (isV (.agg #[.int .i64 kx, .string tx, .bool nx, .slice xo xn xc, .slice yo yn yc, .int .i64 ax, .slice po pn pc, .slice qo qn qc])) x0 W), e0⟩ := hdep 3 29 (by kernel_rfl)
            obtain rfl : x0 = .agg #[.int .i64 kx, .string tx, .bool nx, .slice xo xn xc, .slice yo yn yc, .int .i64 ax, .slice po pn pc, .slice qo qn qc] := q0
            clear hB hdep
            refine goes_call (f := 14) (args := #[.agg #[.int .i64 kx, .string tx, .bool nx, .slice xo xn xc, .slice yo yn yc, .int .i64 ax, .slice po pn pc, .slice qo qn qc]]) ?_ ?_
            · simp only [execOp]
              go_simp
            · exact (rxsound_any D _ W (HD.out.keep (HB9.out.trans (hC.mono HB9.out.size))) HSM.out).mono fun e w7 ⟨he, hb⟩ => ⟨_, he, hC.trans (hb.mono hC.size), hb, by show Value.bool _ = _; rw [HS.out]⟩
          refine AllOps.cons ?_ ?_
          · intro ab W hC hB hdep
            refine .inl ⟨rfl, ?_⟩
            obtain ⟨x0, (q0 : (isV (.bool true)) x0 W), e0⟩ := hdep 2 28 (by kernel_rfl)
            obtain rfl : x0 = .bool true := q0
            obtain ⟨x1, (q1 : (isV (.bool true)) x1 W), e1⟩ := hdep 4 30 (by kernel_rfl)
            obtain rfl : x1 = .bool true := q1
            clear hB hdep
            refine goes_value (v := .bool true) ?_ hC rfl
            simp only [execOp, Act.eval, e0, e1]
            go_simp
          refine AllOps.cons ?_ ?_
          · intro ab W hC hB hdep
            refine .inl ⟨rfl, ?_⟩
            obtain ⟨x0, (q0 : (isV (.bool true)) x0 W), e0⟩ := hdep 5 31 (by kernel_rfl)
            obtain rfl : x0 = .bool true := q0
            clear hB hdep
            refine goes_value (v := .bool true) ?_ hC rfl
            simp only [execOp, Act.eval, e0]
            go_simp
          refine AllOps.cons ?_ ?_
          · intro ab W hC hB hdep
            obtain ⟨xg, (qg : xg = .bool true), eg⟩ := hdep 6 32 (by kernel_rfl)
            subst qg
            refine .inl ⟨((wanted_is (g := 6) (t := 32) (b := true) (c := true) rfl rfl (by rw [hB.size]; exact Nat.le_of_ble_eq_true rfl) eg).trans rfl), ?_⟩
            have b0 : ab.tmps.getD 1 undef = .pointer (some ⟨w.heap.size, 0, none⟩) := hB.off 1 (by kernel_rfl)
            obtain ⟨c0, c1, c2, c3, c4, c5, c6, c7⟩ := rowS8 ((hC.block _ HLT.out).trans HN9.out)
            clear hB hdep
            refine goes_value (v := .agg #[.int .i64 kx, .string tx, .bool nx, .slice xo xn xc, .slice yo yn yc, .int .i64 ax, .slice po pn pc, .slice qo qn qc]) ?_ hC rfl
            simp only [execOp, Act.eval, b0]
            go_simp
          refine AllOps.cons ?_ ?_
          · intro ab W hC hB hdep
            obtain ⟨xg, (qg : xg = .bool true), eg⟩ := hdep 6 32 (by kernel_rfl)
            subst qg
            refine .inl ⟨((wanted_is (g := 6) (t := 32) (b := true) (c := true) rfl rfl (by rw [hB.size]; exact Nat.le_of_ble_eq_true rfl) eg).trans rfl), ?_⟩
            obtain ⟨x0, (q0 : (isV (.agg #[.int .i64 kx, .string tx, .bool nx, .slice xo xn xc, .slice yo yn yc, .int .i64 ax, .slice po pn pc, .slice qo qn qc])) x0 W), e0⟩ := hdep 7 33 (by kernel_rfl)
            obtain rfl : x0 = .agg #[.int .i64 kx, .string tx, .bool nx, .slice xo xn xc, .slice yo yn yc, .int .i64 ax, .slice po pn pc, .slice qo qn qc] := q0
            clear hB hdep
            refine goes_call (f := 11) (args := #[.agg #[.int .i64 kx, .string tx, .bool nx, .slice xo xn xc, .slice yo yn yc, .int .i64 ax, .slice po pn pc, .slice qo qn qc]]) ?_ ?_
            · simp only [execOp]
              go_simp
            · exact (own_sxK D HSM.out.owk _ W (HD.out.keep (HB9.out.trans (hC.mono HB9.out.size)))).mono fun e w7 ⟨vs, he, hl, hb⟩ => ⟨_, he, hC.trans (hb.mono hC.size), hb, ⟨vs, rfl, hl.lay⟩⟩
          refine AllOps.cons ?_ ?_
          · intro ab W hC hB hdep
            obtain ⟨xg, (qg : xg = .bool true), eg⟩ := hdep 6 32 (by kernel_rfl)
            subst qg
            refine .inl ⟨((wanted_is (g := 6) (t := 32) (b := true) (c := true) rfl rfl (by rw [hB.size]; exact Nat.le_of_ble_eq_true rfl) eg).trans rfl), ?_⟩
            obtain ⟨x0, (q0 : (isOw D) x0 W), e0⟩ := hdep 8 34 (by kernel_rfl)
            skip
            clear hB hdep
            refine goes_call (f := 15) (args := #[x0]) ?_ ?_
            · simp only [execOp]
              go_simp
            · obtain ⟨ua, rfl, hla⟩ := q0
              exact (ident_any D ua W hla HSM.out (HT.out.below (HB9.out.trans (hC.mono HB9.out.size)) (Nat.le_refl _))).mono fun e w7 ⟨he, hb⟩ => ⟨_, he, hC.trans (hb.mono hC.size), hb, by show Value.bool _ = _; rw [HI.out]⟩
          refine AllOps.cons ?_ ?_
          · intro ab W hC hB hdep
            obtain ⟨xg, (qg : xg = .bool true), eg⟩ := hdep 6 32 (by kernel_rfl)
            subst qg
            refine .inl ⟨((wanted_is (g := 6) (t := 32) (b := true) (c := true) rfl rfl (by rw [hB.size]; exact Nat.le_of_ble_eq_true rfl) eg).trans rfl), ?_⟩
            have b0 : ab.tmps.getD 1 undef = .pointer (some ⟨w.heap.size, 0, none⟩) := hB.off 1 (by kernel_rfl)
            obtain ⟨c0, c1, c2, c3, c4, c5, c6, c7⟩ := rowS8 ((hC.block _ HLT.out).trans HN9.out)
            clear hB hdep
            refine goes_value (v := .agg #[.int .i64 kx, .string tx, .bool nx, .slice xo xn xc, .slice yo yn yc, .int .i64 ax, .slice po pn pc, .slice qo qn qc]) ?_ hC rfl
            simp only [execOp, Act.eval, b0]
            go_simp
          refine AllOps.cons ?_ ?_
          · intro ab W hC hB hdep
            obtain ⟨xg, (qg : xg = .bool true), eg⟩ := hdep 6 32 (by kernel_rfl)
            subst qg
            refine .inl ⟨((wanted_is (g := 6) (t := 32) (b := true) (c := true) rfl rfl (by rw [hB.size]; exact Nat.le_of_ble_eq_true rfl) eg).trans rfl), ?_⟩
            obtain ⟨x0, (q0 : (isV (.agg #[.int .i64 kx, .string tx, .bool nx, .slice xo xn xc, .slice yo yn yc, .int .i64 ax, .slice po pn pc, .slice qo qn qc])) x0 W), e0⟩ := hdep 10 36 (by kernel_rfl)
            obtain rfl : x0 = .agg #[.int .i64 kx, .string tx, .bool nx, .slice xo xn xc, .slice yo yn yc, .int .i64 ax, .slice po pn pc, .slice qo qn qc] := q0
            clear hB hdep
            refine goes_call (f := 16) (args := #[.agg #[.int .i64 kx, .string tx, .bool nx, .slice xo xn xc, .slice yo yn yc, .int .i64 ax, .slice po pn pc, .slice qo qn qc]]) ?_ ?_
            · simp only [execOp]
              go_simp
            · exact (rident_any D _ W (HD.out.keep (HB9.out.trans (hC.mono HB9.out.size))) HSM.out).mono fun e w7 ⟨he, hb⟩ => ⟨_, he, hC.trans (hb.mono hC.size), hb, by show Value.bool _ = _; rw [HI.out]⟩
          refine AllOps.cons ?_ ?_
          · intro ab W hC hB hdep
            obtain ⟨xg, (qg : xg = .bool true), eg⟩ := hdep 6 32 (by kernel_rfl)
            subst qg
            refine .inl ⟨((wanted_is (g := 6) (t := 32) (b := true) (c := true) rfl rfl (by rw [hB.size]; exact Nat.le_of_ble_eq_true rfl) eg).trans rfl), ?_⟩
            obtain ⟨x0, (q0 : (isV (.bool i0)) x0 W), e0⟩ := hdep 9 35 (by kernel_rfl)
            obtain rfl : x0 = .bool i0 := q0
            obtain ⟨x1, (q1 : (isV (.bool i0)) x1 W), e1⟩ := hdep 11 37 (by kernel_rfl)
            obtain rfl : x1 = .bool i0 := q1
            clear hB hdep
            refine goes_value (v := .bool true) ?_ hC rfl
            simp only [execOp, Act.eval, e0, e1]
            go_simp
          refine AllOps.cons ?_ ?_
          · intro ab W hC hB hdep
            refine .inl ⟨rfl, ?_⟩
            obtain ⟨x0, (q0 : (isV (.bool true)) x0 W), e0⟩ := hdep 6 32 (by kernel_rfl)
            obtain rfl : x0 = .bool true := q0
            obtain ⟨x1, (q1 : (isV (.bool true)) x1 W), e1⟩ := hdep 12 38 (by kernel_rfl)
            obtain rfl : x1 = .bool true := q1
            clear hB hdep
            refine goes_value (v := .bool true) ?_ hC rfl
            simp only [execOp, Act.eval, e0, e1]
            go_simp
          refine AllOps.cons ?_ ?_
          · intro ab W hC hB hdep
            refine .inl ⟨rfl, ?_⟩
            obtain ⟨x0, (q0 : (isV (.bool true)) x0 W), e0⟩ := hdep 13 39 (by kernel_rfl)
            obtain rfl : x0 = .bool true := q0
            clear hB hdep
            refine goes_value (v := .bool true) ?_ hC rfl
            simp only [execOp, Act.eval, e0]
            go_simp
          refine AllOps.cons ?_ ?_
          · intro ab W hC hB hdep
            obtain ⟨xg, (qg : xg = .bool true), eg⟩ := hdep 14 40 (by kernel_rfl)
            subst qg
            refine .inl ⟨((wanted_is (g := 14) (t := 40) (b := true) (c := true) rfl rfl (by rw [hB.size]; exact Nat.le_of_ble_eq_true rfl) eg).trans rfl), ?_⟩
            have b0 : ab.tmps.getD 4 undef = .int .i64 0 := hB.off 4 (by kernel_rfl)
            clear hB hdep
            refine goes_value (v := .int .i64 0) ?_ hC rfl
            simp only [execOp, Act.eval, b0]
            go_simp
          refine AllOps.cons ?_ ?_
          · intro ab W hC hB hdep
            obtain ⟨xg, (qg : xg = .bool true), eg⟩ := hdep 14 40 (by kernel_rfl)
            subst qg
            refine .inl ⟨((wanted_is (g := 14) (t := 40) (b := true) (c := true) rfl rfl (by rw [hB.size]; exact Nat.le_of_ble_eq_true rfl) eg).trans rfl), ?_⟩
            have b0 : ab.tmps.getD 6 undef = .int .i64 0 := hB.off 6 (by kernel_rfl)
            clear hB hdep
            refine goes_value (v := .int .i64 0) ?_ hC rfl
            simp only [execOp, Act.eval, b0]
            go_simp
          refine AllOps.cons ?_ ?_
          · intro ab W hC hB hdep
            obtain ⟨xg, (qg : xg = .bool true), eg⟩ := hdep 14 40 (by kernel_rfl)
            subst qg
            refine .inl ⟨((wanted_is (g := 14) (t := 40) (b := true) (c := true) rfl rfl (by rw [hB.size]; exact Nat.le_of_ble_eq_true rfl) eg).trans rfl), ?_⟩
            obtain ⟨x0, (q0 : (isV (.int .i64 0)) x0 W), e0⟩ := hdep 15 41 (by kernel_rfl)
            obtain rfl : x0 = .int .i64 0 := q0
            obtain ⟨x1, (q1 : (isV (.int .i64 0)) x1 W), e1⟩ := hdep 16 42 (by kernel_rfl)
            obtain rfl : x1 = .int .i64 0 := q1
            clear hB hdep
            refine goes_value (v := .bool true) ?_ hC rfl
            simp only [execOp, Act.eval, e0, e1]
            go_simp
          refine AllOps.cons ?_ ?_
          · intro ab W hC hB hdep
            refine .inl ⟨rfl, ?_⟩
            obtain ⟨x0, (q0 : (isV (.bool true)) x0 W), e0⟩ := hdep 14 40 (by kernel_rfl)
            obtain rfl : x0 = .bool true := q0
            obtain ⟨x1, (q1 : (isV (.bool true)) x1 W), e1⟩ := hdep 17 43 (by kernel_rfl)
            obtain rfl : x1 = .bool true := q1
            clear hB hdep
            refine goes_value (v := .bool true) ?_ hC rfl
            simp only [execOp, Act.eval, e0, e1]
            go_simp
          refine AllOps.cons ?_ ?_
          · intro ab W hC hB hdep
            refine .inl ⟨rfl, ?_⟩
            obtain ⟨x0, (q0 : (isV (.bool true)) x0 W), e0⟩ := hdep 18 44 (by kernel_rfl)
            obtain rfl : x0 = .bool true := q0
            clear hB hdep
            refine goes_value (v := .bool true) ?_ hC rfl
            simp only [execOp, Act.eval, e0]
            go_simp
          refine AllOps.cons ?_ ?_
          · intro ab W hC hB hdep
            obtain ⟨xg, (qg : xg = .bool true), eg⟩ := hdep 19 45 (by kernel_rfl)
            subst qg
            refine .inl ⟨((wanted_is (g := 19) (t := 45) (b := true) (c := true) rfl rfl (by rw [hB.size]; exact Nat.le_of_ble_eq_true rfl) eg).trans rfl), ?_⟩
            have b0 : ab.tmps.getD 4 undef = .int .i64 0 := hB.off 4 (by kernel_rfl)
            clear hB hdep
            refine goes_value (v := .int .i64 0) ?_ hC rfl
            simp only [execOp, Act.eval, b0]
            go_simp
          refine AllOps.cons ?_ ?_
          · intro ab W hC hB hdep
            obtain ⟨xg, (qg : xg = .bool true), eg⟩ := hdep 19 45 (by kernel_rfl)
            subst qg
            refine .inl ⟨((wanted_is (g := 19) (t := 45) (b := true) (c := true) rfl rfl (by rw [hB.size]; exact Nat.le_of_ble_eq_true rfl) eg).trans rfl), ?_⟩
            obtain ⟨x0, (q0 : (isV (.int .i64 0)) x0 W), e0⟩ := hdep 20 46 (by kernel_rfl)
            obtain rfl : x0 = .int .i64 0 := q0
            clear hB hdep
            refine goes_value (v := .bool false) ?_ hC rfl
            simp only [execOp, Act.eval, e0]
            go_simp
          refine AllOps.cons ?_ ?_
          · intro ab W hC hB hdep
            obtain ⟨xg, (qg : xg = .bool true), eg⟩ := hdep 19 45 (by kernel_rfl)
            subst qg
            refine .inl ⟨((wanted_is (g := 19) (t := 45) (b := true) (c := true) rfl rfl (by rw [hB.size]; exact Nat.le_of_ble_eq_true rfl) eg).trans rfl), ?_⟩
            obtain ⟨x0, (q0 : (isV (.bool false)) x0 W), e0⟩ := hdep 21 47 (by kernel_rfl)
            obtain rfl : x0 = .bool false := q0
            clear hB hdep
            refine goes_value (v := .bool false) ?_ hC rfl
            simp only [execOp, Act.eval, e0]
            go_simp
          refine AllOps.cons ?_ ?_
          · intro ab W hC hB hdep
            obtain ⟨xg, (qg : xg = .bool false), eg⟩ := hdep 22 48 (by kernel_rfl)
            subst qg
            refine .inl ⟨((wanted_is (g := 22) (t := 48) (b := false) (c := false) rfl rfl (by rw [hB.size]; exact Nat.le_of_ble_eq_true rfl) eg).trans rfl), ?_⟩
            have b0 : ab.tmps.getD 3 undef = .pointer (some ⟨db, 0, none⟩) := hB.off 3 (by kernel_rfl)
            obtain ⟨c0, c1, c2, c3, c4, c5⟩ := row6d ((hC.block _ (Array.getElem?_eq_some_iff.1 HDB.out).1).trans HDB.out)
            clear hB hdep
            refine goes_value (v := .agg #[.int .i64 y0, .string y1, .bool y2, .slice ro rn rc, .slice so sn sc, .int .i64 y5]) ?_ hC rfl
            simp only [execOp, Act.eval, b0]
            go_simp
          refine AllOps.cons ?_ ?_
          · intro ab W hC hB hdep
            obtain ⟨xg, (qg : xg = .bool false), eg⟩ := hdep 22 48 (by kernel_rfl)
            subst qg
            refine .inl ⟨((wanted_is (g := 22) (t := 48) (b := false) (c := false) rfl rfl (by rw [hB.size]; exact Nat.le_of_ble_eq_true rfl) eg).trans rfl), ?_⟩
            have b0 : ab.tmps.getD 5 undef = .pointer (some ⟨kb, 0, none⟩) := hB.off 5 (by kernel_rfl)
            obtain ⟨c0, c1, c2, c3, c4, c5⟩ := row6d ((hC.block _ (Array.getElem?_eq_some_iff.1 HKB.out).1).trans HKB.out)
            clear hB hdep
            refine goes_value (v := .agg #[.int .i64 y0', .string y1', .bool y2', .slice ro' rn' rc', .slice so' sn' sc', .int .i64 y5']) ?_ hC rfl
            simp only [execOp, Act.eval, b0]
            go_simp
          refine AllOps.cons ?_ ?_
          · intro ab W hC hB hdep
            obtain ⟨xg, (qg : xg = .bool false), eg⟩ := hdep 22 48 (by kernel_rfl)
            subst qg
            refine .inl ⟨((wanted_is (g := 22) (t := 48) (b := false) (c := false) rfl rfl (by rw [hB.size]; exact Nat.le_of_ble_eq_true rfl) eg).trans rfl), ?_⟩
            obtain ⟨x0, (q0 : (isV (.agg #[.int .i64 y0, .string y1, .bool y2, .slice ro rn rc, .slice so sn sc, .int .i64 y5])) x0 W), e0⟩ := hdep 23 49 (by kernel_rfl)
            obtain rfl : x0 = .agg #[.int .i64 y0, .string y1, .bool y2, .slice ro rn rc, .slice so sn sc, .int .i64 y5] := q0
            obtain ⟨x1, (q1 : (isV (.agg #[.int .i64 y0', .string y1', .bool y2', .slice ro' rn' rc', .slice so' sn' sc', .int .i64 y5'])) x1 W), e1⟩ := hdep 24 50 (by kernel_rfl)
            obtain rfl : x1 = .agg #[.int .i64 y0', .string y1', .bool y2', .slice ro' rn' rc', .slice so' sn' sc', .int .i64 y5'] := q1
            clear hB hdep
            refine goes_call (f := 17) (args := #[.agg #[.int .i64 y0, .string y1, .bool y2, .slice ro rn rc, .slice so sn sc, .int .i64 y5], .agg #[.int .i64 y0', .string y1', .bool y2', .slice ro' rn' rc', .slice so' sn' sc', .int .i64 y5']]) ?_ ?_
            · simp only [execOp]
              go_simp
            · exact (rsame_dm _ (dtm D) (dtm D) (Nat.le_refl _) _ _ W (HDL.out.keep hC) (HKL.out.keep hC)).mono fun e w7 ⟨he, hb⟩ => ⟨_, he, hC.trans (hb.mono hC.size), hb, by show Value.bool _ = _; rw [sameA_refl]⟩
          refine AllOps.cons ?_ ?_
          · intro ab W hC hB hdep
            obtain ⟨xg, (qg : xg = .bool true), eg⟩ := hdep 19 45 (by kernel_rfl)
            subst qg
            refine .inl ⟨((wanted_is (g := 19) (t := 45) (b := true) (c := true) rfl rfl (by rw [hB.size]; exact Nat.le_of_ble_eq_true rfl) eg).trans rfl), ?_⟩
            obtain ⟨x0, (q0 : (isV (.bool false)) x0 W), e0⟩ := hdep 22 48 (by kernel_rfl)
            obtain rfl : x0 = .bool false := q0
            obtain ⟨x1, (q1 : (isV (.bool true)) x1 W), e1⟩ := hdep 25 51 (by kernel_rfl)
            obtain rfl : x1 = .bool true := q1
            clear hB hdep
            refine goes_value (v := .bool true) ?_ hC rfl
            simp only [execOp, Act.eval, e0, e1]
            go_simp
          refine AllOps.cons ?_ ?_
          · intro ab W hC hB hdep
            refine .inl ⟨rfl, ?_⟩
            obtain ⟨x0, (q0 : (isV (.bool true)) x0 W), e0⟩ := hdep 19 45 (by kernel_rfl)
            obtain rfl : x0 = .bool true := q0
            obtain ⟨x1, (q1 : (isV (.bool true)) x1 W), e1⟩ := hdep 26 52 (by kernel_rfl)
            obtain rfl : x1 = .bool true := q1
            clear hB hdep
            refine goes_value (v := .bool true) ?_ hC rfl
            simp only [execOp, Act.eval, e0, e1]
            go_simp
          refine AllOps.cons ?_ ?_
          · intro ab W hC hB hdep
            refine .inl ⟨rfl, ?_⟩
            obtain ⟨x0, (q0 : (isV (.bool true)) x0 W), e0⟩ := hdep 27 53 (by kernel_rfl)
            obtain rfl : x0 = .bool true := q0
            clear hB hdep
            refine goes_value (v := .bool true) ?_ hC rfl
            simp only [execOp, Act.eval, e0]
            go_simp
          refine AllOps.cons ?_ ?_
          · intro ab W hC hB hdep
            obtain ⟨xg, (qg : xg = .bool true), eg⟩ := hdep 28 54 (by kernel_rfl)
            subst qg
            refine .inl ⟨((wanted_is (g := 28) (t := 54) (b := true) (c := true) rfl rfl (by rw [hB.size]; exact Nat.le_of_ble_eq_true rfl) eg).trans rfl), ?_⟩
            have b0 : ab.tmps.getD 1 undef = .pointer (some ⟨w.heap.size, 0, none⟩) := hB.off 1 (by kernel_rfl)
            obtain ⟨c0, c1, c2, c3, c4, c5, c6, c7⟩ := rowS8 ((hC.block _ HLT.out).trans HN9.out)
            clear hB hdep
            refine goes_value (v := .agg #[.int .i64 kx, .string tx, .bool nx, .slice xo xn xc, .slice yo yn yc, .int .i64 ax, .slice po pn pc, .slice qo qn qc]) ?_ hC rfl
            simp only [execOp, Act.eval, b0]
            go_simp
          refine AllOps.cons ?_ ?_
          · intro ab W hC hB hdep
            obtain ⟨xg, (qg : xg = .bool true), eg⟩ := hdep 28 54 (by kernel_rfl)
            subst qg
            refine .inl ⟨((wanted_is (g := 28) (t := 54) (b := true) (c := true) rfl rfl (by rw [hB.size]; exact Nat.le_of_ble_eq_true rfl) eg).trans rfl), ?_⟩
            obtain ⟨x0, (q0 : (isV (.agg #[.int .i64 kx, .string tx, .bool nx, .slice xo xn xc, .slice yo yn yc, .int .i64 ax, .slice po pn pc, .slice qo qn qc])) x0 W), e0⟩ := hdep 29 55 (by kernel_rfl)
            obtain rfl : x0 = .agg #[.int .i64 kx, .string tx, .bool nx, .slice xo xn xc, .slice yo yn yc, .int .i64 ax, .slice po pn pc, .slice qo qn qc] := q0
            clear hB hdep
            refine goes_call (f := 18) (args := #[.agg #[.int .i64 kx, .string tx, .bool nx, .slice xo xn xc, .slice yo yn yc, .int .i64 ax, .slice po pn pc, .slice qo qn qc]]) ?_ ?_
            · simp only [execOp]
              go_simp
            · exact (compound_any kx tx nx xo xn xc yo yn yc ax po pn pc qo qn qc W).mono fun e w7 ⟨he, hb⟩ => ⟨_, he, hC.trans (hb.mono hC.size), hb, by show Value.bool _ = _; rw [HK.out]⟩
          refine AllOps.cons ?_ ?_
          · intro ab W hC hB hdep
            obtain ⟨xg, (qg : xg = .bool true), eg⟩ := hdep 28 54 (by kernel_rfl)
            subst qg
            refine .inl ⟨((wanted_is (g := 28) (t := 54) (b := true) (c := true) rfl rfl (by rw [hB.size]; exact Nat.le_of_ble_eq_true rfl) eg).trans rfl), ?_⟩
            have b0 : ab.tmps.getD 1 undef = .pointer (some ⟨w.heap.size, 0, none⟩) := hB.off 1 (by kernel_rfl)
            clear hB hdep
            refine goes_value (v := .pointer (some ⟨w.heap.size, 0, none⟩)) ?_ hC rfl
            simp only [execOp, Act.eval, b0]
            go_simp
          refine AllOps.cons ?_ ?_
          · intro ab W hC hB hdep
            obtain ⟨xg, (qg : xg = .bool true), eg⟩ := hdep 28 54 (by kernel_rfl)
            subst qg
            refine .inl ⟨((wanted_is (g := 28) (t := 54) (b := true) (c := true) rfl rfl (by rw [hB.size]; exact Nat.le_of_ble_eq_true rfl) eg).trans rfl), ?_⟩
            obtain ⟨x0, (q0 : (isV (.pointer (some ⟨w.heap.size, 0, none⟩))) x0 W), e0⟩ := hdep 31 57 (by kernel_rfl)
            obtain rfl : x0 = .pointer (some ⟨w.heap.size, 0, none⟩) := q0
            obtain ⟨c0, c1, c2, c3, c4, c5, c6, c7⟩ := rowS8 ((hC.block _ HLT.out).trans HN9.out)
            clear hB hdep
            refine goes_value (v := .int .i64 kx) ?_ hC rfl
            simp only [execOp, Act.eval, e0]
            go_simp
          refine AllOps.cons ?_ ?_
          · intro ab W hC hB hdep
            obtain ⟨xg, (qg : xg = .bool true), eg⟩ := hdep 28 54 (by kernel_rfl)
            subst qg
            refine .inl ⟨((wanted_is (g := 28) (t := 54) (b := true) (c := true) rfl rfl (by rw [hB.size]; exact Nat.le_of_ble_eq_true rfl) eg).trans rfl), ?_⟩
            obtain ⟨x0, (q0 : (isV (.int .i64 kx)) x0 W), e0⟩ := hdep 32 58 (by kernel_rfl)
            obtain rfl : x0 = .int .i64 kx := q0
            clear hB hdep
            refine goes_value (v := .bool true) ?_ hC rfl
            simp only [execOp, Act.eval, e0]
            go_simp
          refine AllOps.cons ?_ ?_
          · intro ab W hC hB hdep
            obtain ⟨xg, (qg : xg = .bool true), eg⟩ := hdep 28 54 (by kernel_rfl)
            subst qg
            refine .inl ⟨((wanted_is (g := 28) (t := 54) (b := true) (c := true) rfl rfl (by rw [hB.size]; exact Nat.le_of_ble_eq_true rfl) eg).trans rfl), ?_⟩
            obtain ⟨x0, (q0 : (isV (.bool true)) x0 W), e0⟩ := hdep 33 59 (by kernel_rfl)
            obtain rfl : x0 = .bool true := q0
            clear hB hdep
            refine goes_value (v := .bool true) ?_ hC rfl
            simp only [execOp, Act.eval, e0]
            go_simp
          refine AllOps.cons ?_ ?_
          · intro ab W hC hB hdep
            obtain ⟨xg, (qg : xg = .bool true), eg⟩ := hdep 34 60 (by kernel_rfl)
            subst qg
            refine .inl ⟨((wanted_is (g := 34) (t := 60) (b := true) (c := true) rfl rfl (by rw [hB.size]; exact Nat.le_of_ble_eq_true rfl) eg).trans rfl), ?_⟩
            have b0 : ab.tmps.getD 1 undef = .pointer (some ⟨w.heap.size, 0, none⟩) := hB.off 1 (by kernel_rfl)
            clear hB hdep
            refine goes_value (v := .pointer (some ⟨w.heap.size, 0, none⟩)) ?_ hC rfl
            simp only [execOp, Act.eval, b0]
            go_simp
          refine AllOps.cons ?_ ?_
          · intro ab W hC hB hdep
            obtain ⟨xg, (qg : xg = .bool true), eg⟩ := hdep 34 60 (by kernel_rfl)
            subst qg
            refine .inl ⟨((wanted_is (g := 34) (t := 60) (b := true) (c := true) rfl rfl (by rw [hB.size]; exact Nat.le_of_ble_eq_true rfl) eg).trans rfl), ?_⟩
            obtain ⟨x0, (q0 : (isV (.pointer (some ⟨w.heap.size, 0, none⟩))) x0 W), e0⟩ := hdep 35 61 (by kernel_rfl)
            obtain rfl : x0 = .pointer (some ⟨w.heap.size, 0, none⟩) := q0
            obtain ⟨c0, c1, c2, c3, c4, c5, c6, c7⟩ := rowS8 ((hC.block _ HLT.out).trans HN9.out)
            clear hB hdep
            refine goes_value (v := .int .i64 kx) ?_ hC rfl
            simp only [execOp, Act.eval, e0]
            go_simp
          refine AllOps.cons ?_ ?_
          · intro ab W hC hB hdep
            obtain ⟨xg, (qg : xg = .bool true), eg⟩ := hdep 34 60 (by kernel_rfl)
            subst qg
            refine .inl ⟨((wanted_is (g := 34) (t := 60) (b := true) (c := true) rfl rfl (by rw [hB.size]; exact Nat.le_of_ble_eq_true rfl) eg).trans rfl), ?_⟩
            obtain ⟨x0, (q0 : (isV (.int .i64 kx)) x0 W), e0⟩ := hdep 36 62 (by kernel_rfl)
            obtain rfl : x0 = .int .i64 kx := q0
            clear hB hdep
            refine goes_value (v := .bool cz) ?_ hC rfl
            simp only [execOp, Act.eval, e0]
            go_simp
          refine AllOps.cons ?_ ?_
          · intro ab W hC hB hdep
            obtain ⟨xg, (qg : xg = .bool true), eg⟩ := hdep 28 54 (by kernel_rfl)
            subst qg
            refine .inl ⟨((wanted_is (g := 28) (t := 54) (b := true) (c := true) rfl rfl (by rw [hB.size]; exact Nat.le_of_ble_eq_true rfl) eg).trans rfl), ?_⟩
            obtain ⟨x0, (q0 : (isV (.bool true)) x0 W), e0⟩ := hdep 34 60 (by kernel_rfl)
            obtain rfl : x0 = .bool true := q0
            obtain ⟨x1, (q1 : (isV (.bool cz)) x1 W), e1⟩ := hdep 37 63 (by kernel_rfl)
            obtain rfl : x1 = .bool cz := q1
            clear hB hdep
            refine goes_value (v := .bool cz) ?_ hC rfl
            simp only [execOp, Act.eval, e0, e1]
            go_simp
          refine AllOps.cons ?_ ?_
          · intro ab W hC hB hdep
            obtain ⟨xg, (qg : xg = .bool true), eg⟩ := hdep 28 54 (by kernel_rfl)
            subst qg
            refine .inl ⟨((wanted_is (g := 28) (t := 54) (b := true) (c := true) rfl rfl (by rw [hB.size]; exact Nat.le_of_ble_eq_true rfl) eg).trans rfl), ?_⟩
            obtain ⟨x0, (q0 : (isV (.bool cz)) x0 W), e0⟩ := hdep 30 56 (by kernel_rfl)
            obtain rfl : x0 = .bool cz := q0
            obtain ⟨x1, (q1 : (isV (.bool cz)) x1 W), e1⟩ := hdep 38 64 (by kernel_rfl)
            obtain rfl : x1 = .bool cz := q1
            clear hB hdep
            refine goes_value (v := .bool true) ?_ hC rfl
            simp only [execOp, Act.eval, e0, e1]
            go_simp
          refine AllOps.cons ?_ ?_
          · intro ab W hC hB hdep
            refine .inl ⟨rfl, ?_⟩
            obtain ⟨x0, (q0 : (isV (.bool true)) x0 W), e0⟩ := hdep 28 54 (by kernel_rfl)
            obtain rfl : x0 = .bool true := q0
            obtain ⟨x1, (q1 : (isV (.bool true)) x1 W), e1⟩ := hdep 39 65 (by kernel_rfl)
            obtain rfl : x1 = .bool true := q1
            clear hB hdep
            refine goes_value (v := .bool true) ?_ hC rfl
            simp only [execOp, Act.eval, e0, e1]
            go_simp
          refine AllOps.cons ?_ ?_
          · intro ab W hC hB hdep
            refine .inl ⟨rfl, ?_⟩
            obtain ⟨x0, (q0 : (isV (.bool true)) x0 W), e0⟩ := hdep 40 66 (by kernel_rfl)
            obtain rfl : x0 = .bool true := q0
            clear hB hdep
            refine goes_value (v := .bool true) ?_ hC rfl
            simp only [execOp, Act.eval, e0]
            go_simp
          exact trivial
        · intro aa wC hC hB hall
          obtain ⟨v0, (k0 : v0 = .agg #[.int .i64 kx, .string tx, .bool nx, .slice xo xn xc, .slice yo yn yc, .int .i64 ax, .slice po pn pc, .slice qo qn qc]), e0⟩ := hall 0 _ rfl
          obtain ⟨v1, (k1 : (isOw D) v1 wC), e1⟩ := hall 1 _ rfl
          obtain ⟨v2, (k2 : v2 = .bool true), e2⟩ := hall 2 _ rfl
          obtain ⟨v3, (k3 : v3 = .agg #[.int .i64 kx, .string tx, .bool nx, .slice xo xn xc, .slice yo yn yc, .int .i64 ax, .slice po pn pc, .slice qo qn qc]), e3⟩ := hall 3 _ rfl
          obtain ⟨v4, (k4 : v4 = .bool true), e4⟩ := hall 4 _ rfl
          obtain ⟨v5, (k5 : v5 = .bool true), e5⟩ := hall 5 _ rfl
          obtain ⟨v6, (k6 : v6 = .bool true), e6⟩ := hall 6 _ rfl
          obtain ⟨v7, (k7 : v7 = .agg #[.int .i64 kx, .string tx, .bool nx, .slice xo xn xc, .slice yo yn yc, .int .i64 ax, .slice po pn pc, .slice qo qn qc]), e7⟩ := hall 7 _ rfl
          obtain ⟨v8, (k8 : (isOw D) v8 wC), e8⟩ := hall 8 _ rfl
          obtain ⟨v9, (k9 : v9 = .bool i0), e9⟩ := hall 9 _ rfl
          obtain ⟨v10, (k10 : v10 = .agg #[.int .i64 kx, .string tx, .bool nx, .slice xo xn xc, .slice yo yn yc, .int .i64 ax, .slice po pn pc, .slice qo qn qc]), e10⟩ := hall 10 _ rfl
          obtain ⟨v11, (k11 : v11 = .bool i0), e11⟩ := hall 11 _ rfl
          obtain ⟨v12, (k12 : v12 = .bool true), e12⟩ := hall 12 _ rfl
          obtain ⟨v13, (k13 : v13 = .bool true), e13⟩ := hall 13 _ rfl
          obtain ⟨v14, (k14 : v14 = .bool true), e14⟩ := hall 14 _ rfl
          obtain ⟨v15, (k15 : v15 = .int .i64 0), e15⟩ := hall 15 _ rfl
          obtain ⟨v16, (k16 : v16 = .int .i64 0), e16⟩ := hall 16 _ rfl
          obtain ⟨v17, (k17 : v17 = .bool true), e17⟩ := hall 17 _ rfl
          obtain ⟨v18, (k18 : v18 = .bool true), e18⟩ := hall 18 _ rfl
          obtain ⟨v19, (k19 : v19 = .bool true), e19⟩ := hall 19 _ rfl
          obtain ⟨v20, (k20 : v20 = .int .i64 0), e20⟩ := hall 20 _ rfl
          obtain ⟨v21, (k21 : v21 = .bool false), e21⟩ := hall 21 _ rfl
          obtain ⟨v22, (k22 : v22 = .bool false), e22⟩ := hall 22 _ rfl
          obtain ⟨v23, (k23 : v23 = .agg #[.int .i64 y0, .string y1, .bool y2, .slice ro rn rc, .slice so sn sc, .int .i64 y5]), e23⟩ := hall 23 _ rfl
          obtain ⟨v24, (k24 : v24 = .agg #[.int .i64 y0', .string y1', .bool y2', .slice ro' rn' rc', .slice so' sn' sc', .int .i64 y5']), e24⟩ := hall 24 _ rfl
          obtain ⟨v25, (k25 : v25 = .bool true), e25⟩ := hall 25 _ rfl
          obtain ⟨v26, (k26 : v26 = .bool true), e26⟩ := hall 26 _ rfl
          obtain ⟨v27, (k27 : v27 = .bool true), e27⟩ := hall 27 _ rfl
          obtain ⟨v28, (k28 : v28 = .bool true), e28⟩ := hall 28 _ rfl
          obtain ⟨v29, (k29 : v29 = .agg #[.int .i64 kx, .string tx, .bool nx, .slice xo xn xc, .slice yo yn yc, .int .i64 ax, .slice po pn pc, .slice qo qn qc]), e29⟩ := hall 29 _ rfl
          obtain ⟨v30, (k30 : v30 = .bool cz), e30⟩ := hall 30 _ rfl
          obtain ⟨v31, (k31 : v31 = .pointer (some ⟨w.heap.size, 0, none⟩)), e31⟩ := hall 31 _ rfl
          obtain ⟨v32, (k32 : v32 = .int .i64 kx), e32⟩ := hall 32 _ rfl
          obtain ⟨v33, (k33 : v33 = .bool true), e33⟩ := hall 33 _ rfl
          obtain ⟨v34, (k34 : v34 = .bool true), e34⟩ := hall 34 _ rfl
          obtain ⟨v35, (k35 : v35 = .pointer (some ⟨w.heap.size, 0, none⟩)), e35⟩ := hall 35 _ rfl
          obtain ⟨v36, (k36 : v36 = .int .i64 kx), e36⟩ := hall 36 _ rfl
          obtain ⟨v37, (k37 : v37 = .bool cz), e37⟩ := hall 37 _ rfl
          obtain ⟨v38, (k38 : v38 = .bool cz), e38⟩ := hall 38 _ rfl
          obtain ⟨v39, (k39 : v39 = .bool true), e39⟩ := hall 39 _ rfl
          obtain ⟨v40, (k40 : v40 = .bool true), e40⟩ := hall 40 _ rfl
          obtain ⟨v41, (k41 : v41 = .bool true), e41⟩ := hall 41 _ rfl
          subst k0 k2 k3 k4 k5 k6 k7 k9 k10 k11 k12 k13 k14 k15 k16 k17 k18 k19 k20 k21 k22 k23 k24 k25 k26 k27 k28 k29 k30 k31 k32 k33 k34 k35 k36 k37 k38 k39 k40 k41
          have hv : ∀ pq ∈ [((26 : Nat), (.agg #[.int .i64 kx, .string tx, .bool nx, .slice xo xn xc, .slice yo yn yc, .int .i64 ax, .slice po pn pc, .slice qo qn qc] : Value)), ((27 : Nat), (v1 : Value)), ((28 : Nat), (.bool true : Value)), ((29 : Nat), (.agg #[.int .i64 kx, .string tx, .bool nx, .slice xo xn xc, .slice yo yn yc, .int .i64 ax, .slice po pn pc, .slice qo qn qc] : Value)), ((30 : Nat), (.bool true : Value)), ((31 : Nat), (.bool true : Value)), ((32 : Nat), (.bool true : Value)), ((33 : Nat), (.agg #[.int .i64 kx, .string tx, .bool nx, .slice xo xn xc, .slice yo yn yc, .int .i64 ax, .slice po pn pc, .slice qo qn qc] : Value)), ((34 : Nat), (v8 : Value)), ((35 : Nat), (.bool i0 : Value)), ((36 : Nat), (.agg #[.int .i64 kx, .string tx, .bool nx, .slice xo xn xc, .slice yo yn yc, .int .i64 ax, .slice po pn pc, .slice qo qn qc] : Value)), ((37 : Nat), (.bool i0 : Value)), ((38 : Nat), (.bool true : Value)), ((39 : Nat), (.bool true : Value)), ((40 : Nat), (.bool true : Value)), ((41 : Nat), (.int .i64 0 : Value)), ((42 : Nat), (.int .i64 0 : Value)), ((43 : Nat), (.bool true : Value)), ((44 : Nat), (.bool true : Value)), ((45 : Nat), (.bool true : Value)), ((46 : Nat), (.int .i64 0 : Value)), ((47 : Nat), (.bool false : Value)), ((48 : Nat), (.bool false : Value)), ((49 : Nat), (.agg #[.int .i64 y0, .string y1, .bool y2, .slice ro rn rc, .slice so sn sc, .int .i64 y5] : Value)), ((50 : Nat), (.agg #[.int .i64 y0', .string y1', .bool y2', .slice ro' rn' rc', .slice so' sn' sc', .int .i64 y5'] : Value)), ((51 : Nat), (.bool true : Value)), ((52 : Nat), (.bool true : Value)), ((53 : Nat), (.bool true : Value)), ((54 : Nat), (.bool true : Value)), ((55 : Nat), (.agg #[.int .i64 kx, .string tx, .bool nx, .slice xo xn xc, .slice yo yn yc, .int .i64 ax, .slice po pn pc, .slice qo qn qc] : Value)), ((56 : Nat), (.bool cz : Value)), ((57 : Nat), (.pointer (some ⟨w.heap.size, 0, none⟩) : Value)), ((58 : Nat), (.int .i64 kx : Value)), ((59 : Nat), (.bool true : Value)), ((60 : Nat), (.bool true : Value)), ((61 : Nat), (.pointer (some ⟨w.heap.size, 0, none⟩) : Value)), ((62 : Nat), (.int .i64 kx : Value)), ((63 : Nat), (.bool cz : Value)), ((64 : Nat), (.bool cz : Value)), ((65 : Nat), (.bool true : Value)), ((66 : Nat), (.bool true : Value)), ((2 : Nat), (.bool true : Value))], aa.tmps.getD pq.1 undef = pq.2 := by
            intro pq hp
            simp only [List.mem_cons, List.not_mem_nil, or_false] at hp
            rcases hp with rfl | rfl | rfl | rfl | rfl | rfl | rfl | rfl | rfl | rfl | rfl | rfl | rfl | rfl | rfl | rfl | rfl | rfl | rfl | rfl | rfl | rfl | rfl | rfl | rfl | rfl | rfl | rfl | rfl | rfl | rfl | rfl | rfl | rfl | rfl | rfl | rfl | rfl | rfl | rfl | rfl | rfl
            · exact e0 _ rfl
            · exact e1 _ rfl
            · exact e2 _ rfl
            · exact e3 _ rfl
            · exact e4 _ rfl
            · exact e5 _ rfl
            · exact e6 _ rfl
            · exact e7 _ rfl
            · exact e8 _ rfl
            · exact e9 _ rfl
            · exact e10 _ rfl
            · exact e11 _ rfl
            · exact e12 _ rfl
            · exact e13 _ rfl
            · exact e14 _ rfl
            · exact e15 _ rfl
            · exact e16 _ rfl
            · exact e17 _ rfl
            · exact e18 _ rfl
            · exact e19 _ rfl
            · exact e20 _ rfl
            · exact e21 _ rfl
            · exact e22 _ rfl
            · exact e23 _ rfl
            · exact e24 _ rfl
            · exact e25 _ rfl
            · exact e26 _ rfl
            · exact e27 _ rfl
            · exact e28 _ rfl
            · exact e29 _ rfl
            · exact e30 _ rfl
            · exact e31 _ rfl
            · exact e32 _ rfl
            · exact e33 _ rfl
            · exact e34 _ rfl
            · exact e35 _ rfl
            · exact e36 _ rfl
            · exact e37 _ rfl
            · exact e38 _ rfl
            · exact e39 _ rfl
            · exact e40 _ rfl
            · exact e41 _ rfl
          have hact := act_fold _ hB hv (by kernel_rfl)
          subst hact
          clear hv hall hB e0 e1 e2 e3 e4 e5 e6 e7 e8 e9 e10 e11 e12 e13 e14 e15 e16 e17 e18 e19 e20 e21 e22 e23 e24 e25 e26 e27 e28 e29 e30 e31 e32 e33 e34 e35 e36 e37 e38 e39 e40 e41
          refine (‹∀ (a : Act) (w : World), Code.wp Tryz.prog _ _ a w → _›) _ wC ?_
          simp only [List.foldl, List.setIfInBounds_toArray, List.set_cons_succ, List.set_cons_zero]
          have HC := Lib.hid (HB9.out.trans (hC.mono HB9.out.size))
          clear hC
          go_wp2_with fail
          go_ret
          exact ⟨rfl, HC.out⟩
      · have HK : Hid (cpdB kx = false) := Lib.hid (by unfold cpdB; simp [hk1])
        have hk3 : decide (1 ≤ kx) = false := by simpa using hk1
        refine wp_region_slotsG (psi [isV (.agg #[.int .i64 kx, .string tx, .bool nx, .slice xo xn xc, .slice yo yn yc, .int .i64 ax, .slice po pn pc, .slice qo qn qc]), isOw D, isV (.bool true), isV (.agg #[.int .i64 kx, .string tx, .bool nx, .slice xo xn xc, .slice yo yn yc, .int .i64 ax, .slice po pn pc, .slice qo qn qc]), isV (.bool true), isV (.bool true), isV (.bool true), isV (.agg #[.int .i64 kx, .string tx, .bool nx, .slice xo xn xc, .slice yo yn yc, .int .i64 ax, .slice po pn pc, .slice qo qn qc]), isOw D, isV (.bool i0), isV (.agg #[.int .i64 kx, .string tx, .bool nx, .slice xo xn xc, .slice yo yn yc, .int .i64 ax, .slice po pn pc, .slice qo qn qc]), isV (.bool i0), isV (.bool true), isV (.bool true), isV (.bool true), isV (.int .i64 0), isV (.int .i64 0), isV (.bool true), isV (.bool true), isV (.bool true), isV (.int .i64 0), isV (.bool false), isV (.bool false), isV (.agg #[.int .i64 y0, .string y1, .bool y2, .slice ro rn rc, .slice so sn sc, .int .i64 y5]), isV (.agg #[.int .i64 y0', .string y1', .bool y2', .slice ro' rn' rc', .slice so' sn' sc', .int .i64 y5']), isV (.bool true), isV (.bool true), isV (.bool true), isV (.bool true), isV (.agg #[.int .i64 kx, .string tx, .bool nx, .slice xo xn xc, .slice yo yn yc, .int .i64 ax, .slice po pn pc, .slice qo qn qc]), isV (.bool false), isV (.pointer (some ⟨w.heap.size, 0, none⟩)), isV (.int .i64 kx), isV (.bool false), isV (.bool false), isV undef, isV undef, isV undef, isV (.bool false), isV (.bool true), isV (.bool true), isV (.bool true)]) (fun W => Below w8.heap.size w8 W) (by kernel_rfl) (Below.refl _ _).drew (psi_mono ?_) (by kernel_rfl) (by kernel_rfl) ?_ ?_
        · intro pq hp
          simp only [List.mem_cons, List.not_mem_nil, or_false] at hp
          (repeat' rcases hp with rfl | hp) <;> first | exact isV_stays _ | (subst hp; exact isV_stays _) | exact isOw_stays _ | (subst hp; exact isOw_stays _)
        · refine AllOps.cons ?_ ?_
          · intro ab W hC hB hdep
            refine .inl ⟨rfl, ?_⟩
            have b0 : ab.tmps.getD 1 undef = .pointer (some ⟨w.heap.size, 0, none⟩) := hB.off 1 (by kernel_rfl)
            obtain ⟨c0, c1, c2, c3, c4, c5, c6, c7⟩ := rowS8 ((hC.block _ HLT.out).trans HN9.out)
            clear hB hdep
            refine goes_value (v := .agg #[.int .i64 kx, .string tx, .bool nx, .slice xo xn xc, .slice yo yn yc, .int .i64 ax, .slice po pn pc, .slice qo qn qc]) ?_ hC rfl
            simp only [execOp, Act.eval, b0]
            go_simp
          refine AllOps.cons ?_ ?_
          · intro ab W hC hB hdep
            refine .inl ⟨rfl, ?_⟩
            obtain ⟨x0, (q0 : (isV (.agg #[.int .i64 kx, .string tx, .bool nx, .slice xo xn xc, .slice yo yn yc, .int .i64 ax, .slice po pn pc, .slice qo qn qc])) x0 W), e0⟩ := hdep 0 26 (by kernel_rfl)
            obtain rfl : x0 = .agg #[.int .i64 kx, .string tx, .bool nx, .slice xo xn xc, .slice yo yn yc, .int .i64 ax, .slice po pn pc, .slice qo qn qc] := q0
            clear hB hdep
            refine goes_call (f := 11) (args := #[.agg #[.int .i64 kx, .string tx, .bool nx, .slice xo xn xc, .slice yo yn yc, .int .i64 ax, .slice po pn pc, .slice qo qn qc]]) ?_ ?_
            · simp only [execOp]
              go_simp
            · exact (own_sxK D HSM.out.owk _ W (HD.out.keep (HB9.out.trans (hC.mono HB9.out.size)))).mono fun e w7 ⟨vs, he, hl, hb⟩ => ⟨_, he, hC.trans (hb.mono hC.size), hb, ⟨vs, rfl, hl.lay⟩⟩
          refine AllOps.cons ?_ ?_
          · intro ab W hC hB hdep
            refine .inl ⟨rfl, ?_⟩
            obtain ⟨x0, (q0 : (isOw D) x0 W), e0⟩ := hdep 1 27 (by kernel_rfl)
            skip
            clear hB hdep
            refine goes_call (f := 13) (args := #[x0]) ?_ ?_
            · simp only [execOp]
              go_simp
            · obtain ⟨ua, rfl, hla⟩ := q0
              exact (xsound_any D ua W hla HSM.out (HT.out.below (HB9.out.trans (hC.mono HB9.out.size)) (Nat.le_refl _))).mono fun e w7 ⟨he, hb⟩ => ⟨_, he, hC.trans (hb.mono hC.size), hb, by show Value.bool _ = _; rw [HS.out]⟩
          refine AllOps.cons ?_ ?_
          · intro ab W hC hB hdep
            refine .inl ⟨rfl, ?_⟩
            have b0 : ab.tmps.getD 1 undef = .pointer (some ⟨w.heap.size, 0, none⟩) := hB.off 1 (by kernel_rfl)
            obtain ⟨c0, c1, c2, c3, c4, c5, c6, c7⟩ := rowS8 ((hC.block _ HLT.out).trans HN9.out)
            clear hB hdep
            refine goes_value (v := .agg #[.int .i64 kx, .string tx, .bool nx, .slice xo xn xc, .slice yo yn yc, .int .i64 ax, .slice po pn pc, .slice qo qn qc]) ?_ hC rfl
            simp only [execOp, Act.eval, b0]
            go_simp
          refine AllOps.cons ?_ ?_
          · intro ab W hC hB hdep
            refine .inl ⟨rfl, ?_⟩
            obtain ⟨x0, (q0 : (isV (.agg #[.int .i64 kx, .string tx, .bool nx, .slice xo xn xc, .slice yo yn yc, .int .i64 ax, .slice po pn pc, .slice qo qn qc])) x0 W), e0⟩ := hdep 3 29 (by kernel_rfl)
            obtain rfl : x0 = .agg #[.int .i64 kx, .string tx, .bool nx, .slice xo xn xc, .slice yo yn yc, .int .i64 ax, .slice po pn pc, .slice qo qn qc] := q0
            clear hB hdep
            refine goes_call (f := 14) (args := #[.agg #[.int .i64 kx, .string tx, .bool nx, .slice xo xn xc, .slice yo yn yc, .int .i64 ax, .slice po pn pc, .slice qo qn qc]]) ?_ ?_
            · simp only [execOp]
              go_simp
            · exact (rxsound_any D _ W (HD.out.keep (HB9.out.trans (hC.mono HB9.out.size))) HSM.out).mono fun e w7 ⟨he, hb⟩ => ⟨_, he, hC.trans (hb.mono hC.size), hb, by show Value.bool _ = _; rw [HS.out]⟩
          refine AllOps.cons ?_ ?_
          · intro ab W hC hB hdep
            refine .inl ⟨rfl, ?_⟩
            obtain ⟨x0, (q0 : (isV (.bool true)) x0 W), e0⟩ := hdep 2 28 (by kernel_rfl)
            obtain rfl : x0 = .bool true := q0
            obtain ⟨x1, (q1 : (isV (.bool true)) x1 W), e1⟩ := hdep 4 30 (by kernel_rfl)
            obtain rfl : x1 = .bool true := q1
            clear hB hdep
            refine goes_value (v := .bool true) ?_ hC rfl
            simp only [execOp, Act.eval, e0, e1]
            go_simp
          refine AllOps.cons ?_ ?_
          · intro ab W hC hB hdep
            refine .inl ⟨rfl, ?_⟩
            obtain ⟨x0, (q0 : (isV (.bool true)) x0 W), e0⟩ := hdep 5 31 (by kernel_rfl)
            obtain rfl : x0 = .bool true := q0
            clear hB hdep
            refine goes_value (v := .bool true) ?_ hC rfl
            simp only [execOp, Act.eval, e0]
            go_simp
          refine AllOps.cons ?_ ?_
          · intro ab W hC hB hdep
            obtain ⟨xg, (qg : xg = .bool true), eg⟩ := hdep 6 32 (by kernel_rfl)
            subst qg
            refine .inl ⟨((wanted_is (g := 6) (t := 32) (b := true) (c := true) rfl rfl (by rw [hB.size]; exact Nat.le_of_ble_eq_true rfl) eg).trans rfl), ?_⟩
            have b0 : ab.tmps.getD 1 undef = .pointer (some ⟨w.heap.size, 0, none⟩) := hB.off 1 (by kernel_rfl)
            obtain ⟨c0, c1, c2, c3, c4, c5, c6, c7⟩ := rowS8 ((hC.block _ HLT.out).trans HN9.out)
            clear hB hdep
            refine goes_value (v := .agg #[.int .i64 kx, .string tx, .bool nx, .slice xo xn xc, .slice yo yn yc, .int .i64 ax, .slice po pn pc, .slice qo qn qc]) ?_ hC rfl
            simp only [execOp, Act.eval, b0]
            go_simp
          refine AllOps.cons ?_ ?_
          · intro ab W hC hB hdep
            obtain ⟨xg, (qg : xg = .bool true), eg⟩ := hdep 6 32 (by kernel_rfl)
            subst qg
            refine .inl ⟨((wanted_is (g := 6) (t := 32) (b := true) (c := true) rfl rfl (by rw [hB.size]; exact Nat.le_of_ble_eq_true rfl) eg).trans rfl), ?_⟩
            obtain ⟨x0, (q0 : (isV (.agg #[.int .i64 kx, .string tx, .bool nx, .slice xo xn xc, .slice yo yn yc, .int .i64 ax, .slice po pn pc, .slice qo qn qc])) x0 W), e0⟩ := hdep 7 33 (by kernel_rfl)
            obtain rfl : x0 = .agg #[.int .i64 kx, .string tx, .bool nx, .slice xo xn xc, .slice yo yn yc, .int .i64 ax, .slice po pn pc, .slice qo qn qc] := q0
            clear hB hdep
            refine goes_call (f := 11) (args := #[.agg #[.int .i64 kx, .string tx, .bool nx, .slice xo xn xc, .slice yo yn yc, .int .i64 ax, .slice po pn pc, .slice qo qn qc]]) ?_ ?_
            · simp only [execOp]
              go_simp
            · exact (own_sxK D HSM.out.owk _ W (HD.out.keep (HB9.out.trans (hC.mono HB9.out.size)))).mono fun e w7 ⟨vs, he, hl, hb⟩ => ⟨_, he, hC.trans (hb.mono hC.size), hb, ⟨vs, rfl, hl.lay⟩⟩
          refine AllOps.cons ?_ ?_
          · intro ab W hC hB hdep
            obtain ⟨xg, (qg : xg = .bool true), eg⟩ := hdep 6 32 (by kernel_rfl)
            subst qg
            refine .inl ⟨((wanted_is (g := 6) (t := 32) (b := true) (c := true) rfl rfl (by rw [hB.size]; exact Nat.le_of_ble_eq_true rfl) eg).trans rfl), ?_⟩
            obtain ⟨x0, (q0 : (isOw D) x0 W), e0⟩ := hdep 8 34 (by kernel_rfl)
            skip
            clear hB hdep
            refine goes_call (f := 15) (args := #[x0]) ?_ ?_
            · simp only [execOp]
              go_simp
            · obtain ⟨ua, rfl, hla⟩ := q0
              exact (ident_any D ua W hla HSM.out (HT.out.below (HB9.out.trans (hC.mono HB9.out.size)) (Nat.le_refl _))).mono fun e w7 ⟨he, hb⟩ => ⟨_, he, hC.trans (hb.mono hC.size), hb, by show Value.bool _ = _; rw [HI.out]⟩
          refine AllOps.cons ?_ ?_
          · intro ab W hC hB hdep
            obtain ⟨xg, (qg : xg = .bool true), eg⟩ := hdep 6 32 (by kernel_rfl)
            subst qg
            refine .inl ⟨((wanted_is (g := 6) (t := 32) (b := true) (c := true) rfl rfl (by rw [hB.size]; exact Nat.le_of_ble_eq_true rfl) eg).trans rfl), ?_⟩
            have b0 : ab.tmps.getD 1 undef = .pointer (some ⟨w.heap.size, 0, none⟩) := hB.off 1 (by kernel_rfl)
            obtain ⟨c0, c1, c2, c3, c4, c5, c6, c7⟩ := rowS8 ((hC.block _ HLT.out).trans HN9.out)
            clear hB hdep
            refine goes_value (v := .agg #[.int .i64 kx, .string tx, .bool nx, .slice xo xn xc, .slice yo yn yc, .int .i64 ax, .slice po pn pc, .slice qo qn qc]) ?_ hC rfl
            simp only [execOp, Act.eval, b0]
            go_simp
          refine AllOps.cons ?_ ?_
          · intro ab W hC hB hdep
            obtain ⟨xg, (qg : xg = .bool true), eg⟩ := hdep 6 32 (by kernel_rfl)
            subst qg
            refine .inl ⟨((wanted_is (g := 6) (t := 32) (b := true) (c := true) rfl rfl (by rw [hB.size]; exact Nat.le_of_ble_eq_true rfl) eg).trans rfl), ?_⟩
            obtain ⟨x0, (q0 : (isV (.agg #[.int .i64 kx, .string tx, .bool nx, .slice xo xn xc, .slice yo yn yc, .int .i64 ax, .slice po pn pc, .slice qo qn qc])) x0 W), e0⟩ := hdep 10 36 (by kernel_rfl)
            obtain rfl : x0 = .agg #[.int .i64 kx, .string tx, .bool nx, .slice xo xn xc, .slice yo yn yc, .int .i64 ax, .slice po pn pc, .slice qo qn qc] := q0
            clear hB hdep
            refine goes_call (f := 16) (args := #[.agg #[.int .i64 kx, .string tx, .bool nx, .slice xo xn xc, .slice yo yn yc, .int .i64 ax, .slice po pn pc, .slice qo qn qc]]) ?_ ?_
            · simp only [execOp]
              go_simp
            · exact (rident_any D _ W (HD.out.keep (HB9.out.trans (hC.mono HB9.out.size))) HSM.out).mono fun e w7 ⟨he, hb⟩ => ⟨_, he, hC.trans (hb.mono hC.size), hb, by show Value.bool _ = _; rw [HI.out]⟩
          refine AllOps.cons ?_ ?_
          · intro ab W hC hB hdep
            obtain ⟨xg, (qg : xg = .bool true), eg⟩ := hdep 6 32 (by kernel_rfl)
            subst qg
            refine .inl ⟨((wanted_is (g := 6) (t := 32) (b := true) (c := true) rfl rfl (by rw [hB.size]; exact Nat.le_of_ble_eq_true rfl) eg).trans rfl), ?_⟩
            obtain ⟨x0, (q0 : (isV (.bool i0)) x0 W), e0⟩ := hdep 9 35 (by kernel_rfl)
            obtain rfl : x0 = .bool i0 := q0
            obtain ⟨x1, (q1 : (isV (.bool i0)) x1 W), e1⟩ := hdep 11 37 (by kernel_rfl)
            obtain rfl : x1 = .bool i0 := q1
            clear hB hdep
            refine goes_value (v := .bool true) ?_ hC rfl
            simp only [execOp, Act.eval, e0, e1]
            go_simp
          refine AllOps.cons ?_ ?_
          · intro ab W hC hB hdep
            refine .inl ⟨rfl, ?_⟩
            obtain ⟨x0, (q0 : (isV (.bool true)) x0 W), e0⟩ := hdep 6 32 (by kernel_rfl)
            obtain rfl : x0 = .bool true := q0
            obtain ⟨x1, (q1 : (isV (.bool true)) x1 W), e1⟩ := hdep 12 38 (by kernel_rfl)
            obtain rfl : x1 = .bool true := q1
            clear hB hdep
            refine goes_value (v := .bool true) ?_ hC rfl
            simp only [execOp, Act.eval, e0, e1]
            go_simp
          refine AllOps.cons ?_ ?_
          · intro ab W hC hB hdep
            refine .inl ⟨rfl, ?_⟩
            obtain ⟨x0, (q0 : (isV (.bool true)) x0 W), e0⟩ := hdep 13 39 (by kernel_rfl)
            obtain rfl : x0 = .bool true := q0
            clear hB hdep
            refine goes_value (v := .bool true) ?_ hC rfl
            simp only [execOp, Act.eval, e0]
            go_simp
          refine AllOps.cons ?_ ?_
          · intro ab W hC hB hdep
            obtain ⟨xg, (qg : xg = .bool true), eg⟩ := hdep 14 40 (by kernel_rfl)
            subst qg
            refine .inl ⟨((wanted_is (g := 14) (t := 40) (b := true) (c := true) rfl rfl (by rw [hB.size]; exact Nat.le_of_ble_eq_true rfl) eg).trans rfl), ?_⟩
            have b0 : ab.tmps.getD 4 undef = .int .i64 0 := hB.off 4 (by kernel_rfl)
            clear hB hdep
            refine goes_value (v := .int .i64 0) ?_ hC rfl
            simp only [execOp, Act.eval, b0]
            go_simp
          refine AllOps.cons ?_ ?_
          · intro ab W hC hB hdep
            obtain ⟨xg, (qg : xg = .bool true), eg⟩ := hdep 14 40 (by kernel_rfl)
            subst qg
            refine .inl ⟨((wanted_is (g := 14) (t := 40) (b := true) (c := true) rfl rfl (by rw [hB.size]; exact Nat.le_of_ble_eq_true rfl) eg).trans rfl), ?_⟩
            have b0 : ab.tmps.getD 6 undef = .int .i64 0 := hB.off 6 (by kernel_rfl)
            clear hB hdep
            refine goes_value (v := .int .i64 0) ?_ hC rfl
            simp only [execOp, Act.eval, b0]
            go_simp
          refine AllOps.cons ?_ ?_
          · intro ab W hC hB hdep
            obtain ⟨xg, (qg : xg = .bool true), eg⟩ := hdep 14 40 (by kernel_rfl)
            subst qg
            refine .inl ⟨((wanted_is (g := 14) (t := 40) (b := true) (c := true) rfl rfl (by rw [hB.size]; exact Nat.le_of_ble_eq_true rfl) eg).trans rfl), ?_⟩
            obtain ⟨x0, (q0 : (isV (.int .i64 0)) x0 W), e0⟩ := hdep 15 41 (by kernel_rfl)
            obtain rfl : x0 = .int .i64 0 := q0
            obtain ⟨x1, (q1 : (isV (.int .i64 0)) x1 W), e1⟩ := hdep 16 42 (by kernel_rfl)
            obtain rfl : x1 = .int .i64 0 := q1
            clear hB hdep
            refine goes_value (v := .bool true) ?_ hC rfl
            simp only [execOp, Act.eval, e0, e1]
            go_simp
          refine AllOps.cons ?_ ?_
          · intro ab W hC hB hdep
            refine .inl ⟨rfl, ?_⟩
            obtain ⟨x0, (q0 : (isV (.bool true)) x0 W), e0⟩ := hdep 14 40 (by kernel_rfl)
            obtain rfl : x0 = .bool true := q0
            obtain ⟨x1, (q1 : (isV (.bool true)) x1 W), e1⟩ := hdep 17 43 (by kernel_rfl)
            obtain rfl : x1 = .bool true := q1
            clear hB hdep
            refine goes_value (v := .bool true) ?_ hC rfl
            simp only [execOp, Act.eval, e0, e1]
            go_simp
          refine AllOps.cons ?_ ?_
          · intro ab W hC hB hdep
            refine .inl ⟨rfl, ?_⟩
            obtain ⟨x0, (q0 : (isV (.bool true)) x0 W), e0⟩ := hdep 18 44 (by kernel_rfl)
            obtain rfl : x0 = .bool true := q0
            clear hB hdep
            refine goes_value (v := .bool true) ?_ hC rfl
            simp only [execOp, Act.eval, e0]
            go_simp
          refine AllOps.cons ?_ ?_
          · intro ab W hC hB hdep
            obtain ⟨xg, (qg : xg = .bool true), eg⟩ := hdep 19 45 (by kernel_rfl)
            subst qg
            refine .inl ⟨((wanted_is (g := 19) (t := 45) (b := true) (c := true) rfl rfl (by rw [hB.size]; exact Nat.le_of_ble_eq_true rfl) eg).trans rfl), ?_⟩
            have b0 : ab.tmps.getD 4 undef = .int .i64 0 := hB.off 4 (by kernel_rfl)
            clear hB hdep
            refine goes_value (v := .int .i64 0) ?_ hC rfl
            simp only [execOp, Act.eval, b0]
            go_simp
          refine AllOps.cons ?_ ?_
          · intro ab W hC hB hdep
            obtain ⟨xg, (qg : xg = .bool true), eg⟩ := hdep 19 45 (by kernel_rfl)
            subst qg
            refine .inl ⟨((wanted_is (g := 19) (t := 45) (b := true) (c := true) rfl rfl (by rw [hB.size]; exact Nat.le_of_ble_eq_true rfl) eg).trans rfl), ?_⟩
            obtain ⟨x0, (q0 : (isV (.int .i64 0)) x0 W), e0⟩ := hdep 20 46 (by kernel_rfl)
            obtain rfl : x0 = .int .i64 0 := q0
            clear hB hdep
            refine goes_value (v := .bool false) ?_ hC rfl
            simp only [execOp, Act.eval, e0]
            go_simp
          refine AllOps.cons ?_ ?_
          · intro ab W hC hB hdep
            obtain ⟨xg, (qg : xg = .bool true), eg⟩ := hdep 19 45 (by kernel_rfl)
            subst qg
            refine .inl ⟨((wanted_is (g := 19) (t := 45) (b := true) (c := true) rfl rfl (by rw [hB.size]; exact Nat.le_of_ble_eq_true rfl) eg).trans rfl), ?_⟩
            obtain ⟨x0, (q0 : (isV (.bool false)) x0 W), e0⟩ := hdep 21 47 (by kernel_rfl)
            obtain rfl : x0 = .bool false := q0
            clear hB hdep
            refine goes_value (v := .bool false) ?_ hC rfl
            simp only [execOp, Act.eval, e0]
            go_simp
          refine AllOps.cons ?_ ?_
          · intro ab W hC hB hdep
            obtain ⟨xg, (qg : xg = .bool false), eg⟩ := hdep 22 48 (by kernel_rfl)
            subst qg
            refine .inl ⟨((wanted_is (g := 22) (t := 48) (b := false) (c := false) rfl rfl (by rw [hB.size]; exact Nat.le_of_ble_eq_true rfl) eg).trans rfl), ?_⟩
            have b0 : ab.tmps.getD 3 undef = .pointer (some ⟨db, 0, none⟩) := hB.off 3 (by kernel_rfl)
            obtain ⟨c0, c1, c2, c3, c4, c5⟩ := row6d ((hC.block _ (Array.getElem?_eq_some_iff.1 HDB.out).1).trans HDB.out)
            clear hB hdep
            refine goes_value (v := .agg #[.int .i64 y0, .string y1, .bool y2, .slice ro rn rc, .slice so sn sc, .int .i64 y5]) ?_ hC rfl
            simp only [execOp, Act.eval, b0]
            go_simp
          refine AllOps.cons ?_ ?_
          · intro ab W hC hB hdep
            obtain ⟨xg, (qg : xg = .bool false), eg⟩ := hdep 22 48 (by kernel_rfl)
            subst qg
            refine .inl ⟨((wanted_is (g := 22) (t := 48) (b := false) (c := false) rfl rfl (by rw [hB.size]; exact Nat.le_of_ble_eq_true rfl) eg).trans rfl), ?_⟩
            have b0 : ab.tmps.getD 5 undef = .pointer (some ⟨kb, 0, none⟩) := hB.off 5 (by kernel_rfl)
            obtain ⟨c0, c1, c2, c3, c4, c5⟩ := row6d ((hC.block _ (Array.getElem?_eq_some_iff.1 HKB.out).1).trans HKB.out)
            clear hB hdep
            refine goes_value (v := .agg #[.int .i64 y0', .string y1', .bool y2', .slice ro' rn' rc', .slice so' sn' sc', .int .i64 y5']) ?_ hC rfl
            simp only [execOp, Act.eval, b0]
            go_simp
          refine AllOps.cons ?_ ?_
          · intro ab W hC hB hdep
            obtain ⟨xg, (qg : xg = .bool false), eg⟩ := hdep 22 48 (by kernel_rfl)
            subst qg
            refine .inl ⟨((wanted_is (g := 22) (t := 48) (b := false) (c := false) rfl rfl (by rw [hB.size]; exact Nat.le_of_ble_eq_true rfl) eg).trans rfl), ?_⟩
            obtain ⟨x0, (q0 : (isV (.agg #[.int .i64 y0, .string y1, .bool y2, .slice ro rn rc, .slice so sn sc, .int .i64 y5])) x0 W), e0⟩ := hdep 23 49 (by kernel_rfl)
            obtain rfl : x0 = .agg #[.int .i64 y0, .string y1, .bool y2, .slice ro rn rc, .slice so sn sc, .int .i64 y5] := q0
            obtain ⟨x1, (q1 : (isV (.agg #[.int .i64 y0', .string y1', .bool y2', .slice ro' rn' rc', .slice so' sn' sc', .int .i64 y5'])) x1 W), e1⟩ := hdep 24 50 (by kernel_rfl)
            obtain rfl : x1 = .agg #[.int .i64 y0', .string y1', .bool y2', .slice ro' rn' rc', .slice so' sn' sc', .int .i64 y5'] := q1
            clear hB hdep
            refine goes_call (f := 17) (args := #[.agg #[.int .i64 y0, .string y1, .bool y2, .slice ro rn rc, .slice so sn sc, .int .i64 y5], .agg #[.int .i64 y0', .string y1', .bool y2', .slice ro' rn' rc', .slice so' sn' sc', .int .i64 y5']]) ?_ ?_
            · simp only [execOp]
              go_simp
            · exact (rsame_dm _ (dtm D) (dtm D) (Nat.le_refl _) _ _ W (HDL.out.keep hC) (HKL.out.keep hC)).mono fun e w7 ⟨he, hb⟩ => ⟨_, he, hC.trans (hb.mono hC.size), hb, by show Value.bool _ = _; rw [sameA_refl]⟩
          refine AllOps.cons ?_ ?_
          · intro ab W hC hB hdep
            obtain ⟨xg, (qg : xg = .bool true), eg⟩ := hdep 19 45 (by kernel_rfl)
            subst qg
            refine .inl ⟨((wanted_is (g := 19) (t := 45) (b := true) (c := true) rfl rfl (by rw [hB.size]; exact Nat.le_of_ble_eq_true rfl) eg).trans rfl), ?_⟩
            obtain ⟨x0, (q0 : (isV (.bool false)) x0 W), e0⟩ := hdep 22 48 (by kernel_rfl)
            obtain rfl : x0 = .bool false := q0
            obtain ⟨x1, (q1 : (isV (.bool true)) x1 W), e1⟩ := hdep 25 51 (by kernel_rfl)
            obtain rfl : x1 = .bool true := q1
            clear hB hdep
            refine goes_value (v := .bool true) ?_ hC rfl
            simp only [execOp, Act.eval, e0, e1]
            go_simp
          refine AllOps.cons ?_ ?_
          · intro ab W hC hB hdep
            refine .inl ⟨rfl, ?_⟩
            obtain ⟨x0, (q0 : (isV (.bool true)) x0 W), e0⟩ := hdep 19 45 (by kernel_rfl)
            obtain rfl : x0 = .bool true := q0
            obtain ⟨x1, (q1 : (isV (.bool true)) x1 W), e1⟩ := hdep 26 52 (by kernel_rfl)
            obtain rfl : x1 = .bool true := q1
            clear hB hdep
            refine goes_value (v := .bool true) ?_ hC rfl
            simp only [execOp, Act.eval, e0, e1]
            go_simp
          refine AllOps.cons ?_ ?_
          · intro ab W hC hB hdep
            refine .inl ⟨rfl, ?_⟩
            obtain ⟨x0, (q0 : (isV (.bool true)) x0 W), e0⟩ := hdep 27 53 (by kernel_rfl)
            obtain rfl : x0 = .bool true := q0
            clear hB hdep
            refine goes_value (v := .bool true) ?_ hC rfl
            simp only [execOp, Act.eval, e0]
            go_simp
          refine AllOps.cons ?_ ?_
          · intro ab W hC hB hdep
            obtain ⟨xg, (qg : xg = .bool true), eg⟩ := hdep 28 54 (by kernel_rfl)
            subst qg
            refine .inl ⟨((wanted_is (g := 28) (t := 54) (b := true) (c := true) rfl rfl (by rw [hB.size]; exact Nat.le_of_ble_eq_true rfl) eg).trans rfl), ?_⟩
            have b0 : ab.tmps.getD 1 undef = .pointer (some ⟨w.heap.size, 0, none⟩) := hB.off 1 (by kernel_rfl)
            obtain ⟨c0, c1, c2, c3, c4, c5, c6, c7⟩ := rowS8 ((hC.block _ HLT.out).trans HN9.out)
            clear hB hdep
            refine goes_value (v := .agg #[.int .i64 kx, .string tx, .bool nx, .slice xo xn xc, .slice yo yn yc, .int .i64 ax, .slice po pn pc, .slice qo qn qc]) ?_ hC rfl
            simp only [execOp, Act.eval, b0]
            go_simp
          refine AllOps.cons ?_ ?_
          · intro ab W hC hB hdep
            obtain ⟨xg, (qg : xg = .bool true), eg⟩ := hdep 28 54 (by kernel_rfl)
            subst qg
            refine .inl ⟨((wanted_is (g := 28) (t := 54) (b := true) (c := true) rfl rfl (by rw [hB.size]; exact Nat.le_of_ble_eq_true rfl) eg).trans rfl), ?_⟩
            obtain ⟨x0, (q0 : (isV (.agg #[.int .i64 kx, .string tx, .bool nx, .slice xo xn xc, .slice yo yn yc, .int .i64 ax, .slice po pn pc, .slice qo qn qc])) x0 W), e0⟩ := hdep 29 55 (by kernel_rfl)
            obtain rfl : x0 = .agg #[.int .i64 kx, .string tx, .bool nx, .slice xo xn xc, .slice yo yn yc, .int .i64 ax, .slice po pn pc, .slice qo qn qc] := q0
            clear hB hdep
            refine goes_call (f := 18) (args := #[.agg #[.int .i64 kx, .string tx, .bool nx, .slice xo xn xc, .slice yo yn yc, .int .i64 ax, .slice po pn pc, .slice qo qn qc]]) ?_ ?_
            · simp only [execOp]
              go_simp
            · exact (compound_any kx tx nx xo xn xc yo yn yc ax po pn pc qo qn qc W).mono fun e w7 ⟨he, hb⟩ => ⟨_, he, hC.trans (hb.mono hC.size), hb, by show Value.bool _ = _; rw [HK.out]⟩
          refine AllOps.cons ?_ ?_
          · intro ab W hC hB hdep
            obtain ⟨xg, (qg : xg = .bool true), eg⟩ := hdep 28 54 (by kernel_rfl)
            subst qg
            refine .inl ⟨((wanted_is (g := 28) (t := 54) (b := true) (c := true) rfl rfl (by rw [hB.size]; exact Nat.le_of_ble_eq_true rfl) eg).trans rfl), ?_⟩
            have b0 : ab.tmps.getD 1 undef = .pointer (some ⟨w.heap.size, 0, none⟩) := hB.off 1 (by kernel_rfl)
            clear hB hdep
            refine goes_value (v := .pointer (some ⟨w.heap.size, 0, none⟩)) ?_ hC rfl
            simp only [execOp, Act.eval, b0]
            go_simp
          refine AllOps.cons ?_ ?_
          · intro ab W hC hB hdep
            obtain ⟨xg, (qg : xg = .bool true), eg⟩ := hdep 28 54 (by kernel_rfl)
            subst qg
            refine .inl ⟨((wanted_is (g := 28) (t := 54) (b := true) (c := true) rfl rfl (by rw [hB.size]; exact Nat.le_of_ble_eq_true rfl) eg).trans rfl), ?_⟩
            obtain ⟨x0, (q0 : (isV (.pointer (some ⟨w.heap.size, 0, none⟩))) x0 W), e0⟩ := hdep 31 57 (by kernel_rfl)
            obtain rfl : x0 = .pointer (some ⟨w.heap.size, 0, none⟩) := q0
            obtain ⟨c0, c1, c2, c3, c4, c5, c6, c7⟩ := rowS8 ((hC.block _ HLT.out).trans HN9.out)
            clear hB hdep
            refine goes_value (v := .int .i64 kx) ?_ hC rfl
            simp only [execOp, Act.eval, e0]
            go_simp
          refine AllOps.cons ?_ ?_
          · intro ab W hC hB hdep
            obtain ⟨xg, (qg : xg = .bool true), eg⟩ := hdep 28 54 (by kernel_rfl)
            subst qg
            refine .inl ⟨((wanted_is (g := 28) (t := 54) (b := true) (c := true) rfl rfl (by rw [hB.size]; exact Nat.le_of_ble_eq_true rfl) eg).trans rfl), ?_⟩
            obtain ⟨x0, (q0 : (isV (.int .i64 kx)) x0 W), e0⟩ := hdep 32 58 (by kernel_rfl)
            obtain rfl : x0 = .int .i64 kx := q0
            clear hB hdep
            refine goes_value (v := .bool false) ?_ hC rfl
            simp only [execOp, Act.eval, e0]
            go_simp
          refine AllOps.cons ?_ ?_
          · intro ab W hC hB hdep
            obtain ⟨xg, (qg : xg = .bool true), eg⟩ := hdep 28 54 (by kernel_rfl)
            subst qg
            refine .inl ⟨((wanted_is (g := 28) (t := 54) (b := true) (c := true) rfl rfl (by rw [hB.size]; exact Nat.le_of_ble_eq_true rfl) eg).trans rfl), ?_⟩
            obtain ⟨x0, (q0 : (isV (.bool false)) x0 W), e0⟩ := hdep 33 59 (by kernel_rfl)
            obtain rfl : x0 = .bool false := q0
            clear hB hdep
            refine goes_value (v := .bool false) ?_ hC rfl
            simp only [execOp, Act.eval, e0]
            go_simp
          refine AllOps.cons ?_ ?_
          · intro ab W hC hB hdep
            obtain ⟨xg, (qg : xg = .bool false), eg⟩ := hdep 34 60 (by kernel_rfl)
            subst qg
            exact .inr ⟨((wanted_is (g := 34) (t := 60) (b := true) (c := false) rfl rfl (by rw [hB.size]; exact Nat.le_of_ble_eq_true rfl) eg).trans rfl), rfl⟩
          refine AllOps.cons ?_ ?_
          · intro ab W hC hB hdep
            obtain ⟨xg, (qg : xg = .bool false), eg⟩ := hdep 34 60 (by kernel_rfl)
            subst qg
            exact .inr ⟨((wanted_is (g := 34) (t := 60) (b := true) (c := false) rfl rfl (by rw [hB.size]; exact Nat.le_of_ble_eq_true rfl) eg).trans rfl), rfl⟩
          refine AllOps.cons ?_ ?_
          · intro ab W hC hB hdep
            obtain ⟨xg, (qg : xg = .bool false), eg⟩ := hdep 34 60 (by kernel_rfl)
            subst qg
            exact .inr ⟨((wanted_is (g := 34) (t := 60) (b := true) (c := false) rfl rfl (by rw [hB.size]; exact Nat.le_of_ble_eq_true rfl) eg).trans rfl), rfl⟩
          refine AllOps.cons ?_ ?_
          · intro ab W hC hB hdep
            obtain ⟨xg, (qg : xg = .bool true), eg⟩ := hdep 28 54 (by kernel_rfl)
            subst qg
            refine .inl ⟨((wanted_is (g := 28) (t := 54) (b := true) (c := true) rfl rfl (by rw [hB.size]; exact Nat.le_of_ble_eq_true rfl) eg).trans rfl), ?_⟩
            obtain ⟨x0, (q0 : (isV (.bool false)) x0 W), e0⟩ := hdep 34 60 (by kernel_rfl)
            obtain rfl : x0 = .bool false := q0
            obtain ⟨x1, (q1 : (isV undef) x1 W), e1⟩ := hdep 37 63 (by kernel_rfl)
            obtain rfl : x1 = undef := q1
            clear hB hdep
            refine goes_value (v := .bool false) ?_ hC rfl
            simp only [execOp, Act.eval, e0, e1]
            go_simp
          refine AllOps.cons ?_ ?_
          · intro ab W hC hB hdep
            obtain ⟨xg, (qg : xg = .bool true), eg⟩ := hdep 28 54 (by kernel_rfl)
            subst qg
            refine .inl ⟨((wanted_is (g := 28) (t := 54) (b := true) (c := true) rfl rfl (by rw [hB.size]; exact Nat.le_of_ble_eq_true rfl) eg).trans rfl), ?_⟩
            obtain ⟨x0, (q0 : (isV (.bool false)) x0 W), e0⟩ := hdep 30 56 (by kernel_rfl)
            obtain rfl : x0 = .bool false := q0
            obtain ⟨x1, (q1 : (isV (.bool false)) x1 W), e1⟩ := hdep 38 64 (by kernel_rfl)
            obtain rfl : x1 = .bool false := q1
            clear hB hdep
            refine goes_value (v := .bool true) ?_ hC rfl
            simp only [execOp, Act.eval, e0, e1]
            go_simp
          refine AllOps.cons ?_ ?_
          · intro ab W hC hB hdep
            refine .inl ⟨rfl, ?_⟩
            obtain ⟨x0, (q0 : (isV (.bool true)) x0 W), e0⟩ := hdep 28 54 (by kernel_rfl)
            obtain rfl : x0 = .bool true := q0
            obtain ⟨x1, (q1 : (isV (.bool true)) x1 W), e1⟩ := hdep 39 65 (by kernel_rfl)
            obtain rfl : x1 = .bool true := q1
            clear hB hdep
            refine goes_value (v := .bool true) ?_ hC rfl
            simp only [execOp, Act.eval, e0, e1]
            go_simp
          refine AllOps.cons ?_ ?_
          · intro ab W hC hB hdep
            refine .inl ⟨rfl, ?_⟩
            obtain ⟨x0, (q0 : (isV (.bool true)) x0 W), e0⟩ := hdep 40 66 (by kernel_rfl)
            obtain rfl : x0 = .bool true := q0
            clear hB hdep
            refine goes_value (v := .bool true) ?_ hC rfl
            simp only [execOp, Act.eval, e0]
            go_simp
          exact trivial
        · intro aa wC hC hB hall
          obtain ⟨v0, (k0 : v0 = .agg #[.int .i64 kx, .string tx, .bool nx, .slice xo xn xc, .slice yo yn yc, .int .i64 ax, .slice po pn pc, .slice qo qn qc]), e0⟩ := hall 0 _ rfl
          obtain ⟨v1, (k1 : (isOw D) v1 wC), e1⟩ := hall 1 _ rfl
          obtain ⟨v2, (k2 : v2 = .bool true), e2⟩ := hall 2 _ rfl
          obtain ⟨v3, (k3 : v3 = .agg #[.int .i64 kx, .string tx, .bool nx, .slice xo xn xc, .slice yo yn yc, .int .i64 ax, .slice po pn pc, .slice qo qn qc]), e3⟩ := hall 3 _ rfl
          obtain ⟨v4, (k4 : v4 = .bool true), e4⟩ := hall 4 _ rfl
          obtain ⟨v5, (k5 : v5 = .bool true), e5⟩ := hall 5 _ rfl
          obtain ⟨v6, (k6 : v6 = .bool true), e6⟩ := hall 6 _ rfl
          obtain ⟨v7, (k7 : v7 = .agg #[.int .i64 kx, .string tx, .bool nx, .slice xo xn xc, .slice yo yn yc, .int .i64 ax, .slice po pn pc, .slice qo qn qc]), e7⟩ := hall 7 _ rfl
          obtain ⟨v8, (k8 : (isOw D) v8 wC), e8⟩ := hall 8 _ rfl
          obtain ⟨v9, (k9 : v9 = .bool i0), e9⟩ := hall 9 _ rfl
          obtain ⟨v10, (k10 : v10 = .agg #[.int .i64 kx, .string tx, .bool nx, .slice xo xn xc, .slice yo yn yc, .int .i64 ax, .slice po pn pc, .slice qo qn qc]), e10⟩ := hall 10 _ rfl
          obtain ⟨v11, (k11 : v11 = .bool i0), e11⟩ := hall 11 _ rfl
          obtain ⟨v12, (k12 : v12 = .bool true), e12⟩ := hall 12 _ rfl
          obtain ⟨v13, (k13 : v13 = .bool true), e13⟩ := hall 13 _ rfl
          obtain ⟨v14, (k14 : v14 = .bool true), e14⟩ := hall 14 _ rfl
          obtain ⟨v15, (k15 : v15 = .int .i64 0), e15⟩ := hall 15 _ rfl
          obtain ⟨v16, (k16 : v16 = .int .i64 0), e16⟩ := hall 16 _ rfl
          obtain ⟨v17, (k17 : v17 = .bool true), e17⟩ := hall 17 _ rfl
          obtain ⟨v18, (k18 : v18 = .bool true), e18⟩ := hall 18 _ rfl
          obtain ⟨v19, (k19 : v19 = .bool true), e19⟩ := hall 19 _ rfl
          obtain ⟨v20, (k20 : v20 = .int .i64 0), e20⟩ := hall 20 _ rfl
          obtain ⟨v21, (k21 : v21 = .bool false), e21⟩ := hall 21 _ rfl
          obtain ⟨v22, (k22 : v22 = .bool false), e22⟩ := hall 22 _ rfl
          obtain ⟨v23, (k23 : v23 = .agg #[.int .i64 y0, .string y1, .bool y2, .slice ro rn rc, .slice so sn sc, .int .i64 y5]), e23⟩ := hall 23 _ rfl
          obtain ⟨v24, (k24 : v24 = .agg #[.int .i64 y0', .string y1', .bool y2', .slice ro' rn' rc', .slice so' sn' sc', .int .i64 y5']), e24⟩ := hall 24 _ rfl
          obtain ⟨v25, (k25 : v25 = .bool true), e25⟩ := hall 25 _ rfl
          obtain ⟨v26, (k26 : v26 = .bool true), e26⟩ := hall 26 _ rfl
          obtain ⟨v27, (k27 : v27 = .bool true), e27⟩ := hall 27 _ rfl
          obtain ⟨v28, (k28 : v28 = .bool true), e28⟩ := hall 28 _ rfl
          obtain ⟨v29, (k29 : v29 = .agg #[.int .i64 kx, .string tx, .bool nx, .slice xo xn xc, .slice yo yn yc, .int .i64 ax, .slice po pn pc, .slice qo qn qc]), e29⟩ := hall 29 _ rfl
          obtain ⟨v30, (k30 : v30 = .bool false), e30⟩ := hall 30 _ rfl
          obtain ⟨v31, (k31 : v31 = .pointer (some ⟨w.heap.size, 0, none⟩)), e31⟩ := hall 31 _ rfl
          obtain ⟨v32, (k32 : v32 = .int .i64 kx), e32⟩ := hall 32 _ rfl
          obtain ⟨v33, (k33 : v33 = .bool false), e33⟩ := hall 33 _ rfl
          obtain ⟨v34, (k34 : v34 = .bool false), e34⟩ := hall 34 _ rfl
          obtain ⟨v35, (k35 : v35 = undef), e35⟩ := hall 35 _ rfl
          obtain ⟨v36, (k36 : v36 = undef), e36⟩ := hall 36 _ rfl
          obtain ⟨v37, (k37 : v37 = undef), e37⟩ := hall 37 _ rfl
          obtain ⟨v38, (k38 : v38 = .bool false), e38⟩ := hall 38 _ rfl
          obtain ⟨v39, (k39 : v39 = .bool true), e39⟩ := hall 39 _ rfl
          obtain ⟨v40, (k40 : v40 = .bool true), e40⟩ := hall 40 _ rfl
          obtain ⟨v41, (k41 : v41 = .bool true), e41⟩ := hall 41 _ rfl
          subst k0 k2 k3 k4 k5 k6 k7 k9 k10 k11 k12 k13 k14 k15 k16 k17 k18 k19 k20 k21 k22 k23 k24 k25 k26 k27 k28 k29 k30 k31 k32 k33 k34 k35 k36 k37 k38 k39 k40 k41
          have hv : ∀ pq ∈ [((26 : Nat), (.agg #[.int .i64 kx, .string tx, .bool nx, .slice xo xn xc, .slice yo yn yc, .int .i64 ax, .slice po pn pc, .slice qo qn qc] : Value)), ((27 : Nat), (v1 : Value)), ((28 : Nat), (.bool true : Value)), ((29 : Nat), (.agg #[.int .i64 kx, .string tx, .bool nx, .slice xo xn xc, .slice yo yn yc, .int .i64 ax, .slice po pn pc, .slice qo qn qc] : Value)), ((30 : Nat), (.bool true : Value)), ((31 : Nat), (.bool true : Value)), ((32 : Nat), (.bool true : Value)), ((33 : Nat), (.agg #[.int .i64 kx, .string tx, .bool nx, .slice xo xn xc, .slice yo yn yc, .int .i64 ax, .slice po pn pc, .slice qo qn qc] : Value)), ((34 : Nat), (v8 : Value)), ((35 : Nat), (.bool i0 : Value)), ((36 : Nat), (.agg #[.int .i64 kx, .string tx, .bool nx, .slice xo xn xc, .slice yo yn yc, .int .i64 ax, .slice po pn pc, .slice qo qn qc] : Value)), ((37 : Nat), (.bool i0 : Value)), ((38 : Nat), (.bool true : Value)), ((39 : Nat), (.bool true : Value)), ((40 : Nat), (.bool true : Value)), ((41 : Nat), (.int .i64 0 : Value)), ((42 : Nat), (.int .i64 0 : Value)), ((43 : Nat), (.bool true : Value)), ((44 : Nat), (.bool true : Value)), ((45 : Nat), (.bool true : Value)), ((46 : Nat), (.int .i64 0 : Value)), ((47 : Nat), (.bool false : Value)), ((48 : Nat), (.bool false : Value)), ((49 : Nat), (.agg #[.int .i64 y0, .string y1, .bool y2, .slice ro rn rc, .slice so sn sc, .int .i64 y5] : Value)), ((50 : Nat), (.agg #[.int .i64 y0', .string y1', .bool y2', .slice ro' rn' rc', .slice so' sn' sc', .int .i64 y5'] : Value)), ((51 : Nat), (.bool true : Value)), ((52 : Nat), (.bool true : Value)), ((53 : Nat), (.bool true : Value)), ((54 : Nat), (.bool true : Value)), ((55 : Nat), (.agg #[.int .i64 kx, .string tx, .bool nx, .slice xo xn xc, .slice yo yn yc, .int .i64 ax, .slice po pn pc, .slice qo qn qc] : Value)), ((56 : Nat), (.bool false : Value)), ((57 : Nat), (.pointer (some ⟨w.heap.size, 0, none⟩) : Value)), ((58 : Nat), (.int .i64 kx : Value)), ((59 : Nat), (.bool false : Value)), ((60 : Nat), (.bool false : Value)), ((61 : Nat), (undef : Value)), ((62 : Nat), (undef : Value)), ((63 : Nat), (undef : Value)), ((64 : Nat), (.bool false : Value)), ((65 : Nat), (.bool true : Value)), ((66 : Nat), (.bool true : Value)), ((2 : Nat), (.bool true : Value))], aa.tmps.getD pq.1 undef = pq.2 := by
            intro pq hp
            simp only [List.mem_cons, List.not_mem_nil, or_false] at hp
            rcases hp with rfl | rfl | rfl | rfl | rfl | rfl | rfl | rfl | rfl | rfl | rfl | rfl | rfl | rfl | rfl | rfl | rfl | rfl | rfl | rfl | rfl | rfl | rfl | rfl | rfl | rfl | rfl | rfl | rfl | rfl | rfl | rfl | rfl | rfl | rfl | rfl | rfl | rfl | rfl | rfl | rfl | rfl
            · exact e0 _ rfl
            · exact e1 _ rfl
            · exact e2 _ rfl
            · exact e3 _ rfl
            · exact e4 _ rfl
            · exact e5 _ rfl
            · exact e6 _ rfl
            · exact e7 _ rfl
            · exact e8 _ rfl
            · exact e9 _ rfl
            · exact e10 _ rfl
            · exact e11 _ rfl
            · exact e12 _ rfl
            · exact e13 _ rfl
            · exact e14 _ rfl
            · exact e15 _ rfl
            · exact e16 _ rfl
            · exact e17 _ rfl
            · exact e18 _ rfl
            · exact e19 _ rfl
            · exact e20 _ rfl
            · exact e21 _ rfl
            · exact e22 _ rfl
            · exact e23 _ rfl
            · exact e24 _ rfl
            · exact e25 _ rfl
            · exact e26 _ rfl
            · exact e27 _ rfl
            · exact e28 _ rfl
            · exact e29 _ rfl
            · exact e30 _ rfl
            · exact e31 _ rfl
            · exact e32 _ rfl
            · exact e33 _ rfl
            · exact e34 _ rfl
            · exact e35 _ rfl
            · exact e36 _ rfl
            · exact e37 _ rfl
            · exact e38 _ rfl
            · exact e39 _ rfl
            · exact e40 _ rfl
            · exact e41 _ rfl
          have hact := act_fold _ hB hv (by kernel_rfl)
          subst hact
          clear hv hall hB e0 e1 e2 e3 e4 e5 e6 e7 e8 e9 e10 e11 e12 e13 e14 e15 e16 e17 e18 e19 e20 e21 e22 e23 e24 e25 e26 e27 e28 e29 e30 e31 e32 e33 e34 e35 e36 e37 e38 e39 e40 e41
          refine (‹∀ (a : Act) (w : World), Code.wp Tryz.prog _ _ a w → _›) _ wC ?_
          simp only [List.foldl, List.setIfInBounds_toArray, List.set_cons_succ, List.set_cons_zero]
          have HC := Lib.hid (HB9.out.trans (hC.mono HB9.out.size))
          clear hC
          go_wp2_with fail
          go_ret
          exact ⟨rfl, HC.out⟩
    | false =>
      have HS := Lib.hid hs
      clear hs
      obtain ⟨c0, c1, c2, c3, c4, c5, c6, c7⟩ := rowS8 (HN3.out)
      go_wp2_with fail
      refine (own_sxK D HSM.out.owk _ w3 (HD.out.keep HB3.out)).mono ?_
      rintro e w4 ⟨vs, rfl, hl, hb⟩
      have HB4 := Lib.hid (HB3.out.trans (hb.mono HB3.out.size))
      have HN4 := Lib.hid ((hb.block _ (Array.getElem?_eq_some_iff.1 HN3.out).1).trans HN3.out)
      have HL4 := Lib.hid hl.lay
      clear hb hl c0 c1 c2 c3 c4 c5 c6 c7
      go_wp2_with fail
      refine (strip_any D vs w4 HL4.out HSM.out (HT.out.below HB4.out (Nat.le_refl _))).mono ?_
      rintro e w5 ⟨y0, y1, y2, ro, rn, rc, so, sn, sc, y5, rfl, hyes, hb⟩
      simp only [HS.out, Bool.false_eq_true, if_false]
      have ha := below1 w5 (.cells #[.int .i64 y0, .string y1, .bool y2, .slice ro rn rc, .slice so sn sc, .int .i64 y5] 33)
      have hx := heap_alloc_new w5 (.cells #[.int .i64 y0, .string y1, .bool y2, .slice ro rn rc, .slice so sn sc, .int .i64 y5] 33)
      have hh := hb.trans (ha.mono hb.size)
      have HB6 := Lib.hid (HB4.out.trans (hh.mono HB4.out.size))
      have HN6 := Lib.hid ((hh.block _ (Array.getElem?_eq_some_iff.1 HN4.out).1).trans HN4.out)
      have HDL := Lib.hid (fun h => (hyes h).keep ha)
      have HDB := Lib.hid hx
      go_upto_region 4 with fail
      generalize w5.alloc (.cells #[.int .i64 y0, .string y1, .bool y2, .slice ro rn rc, .slice so sn sc, .int .i64 y5] 33) = w6 at *
      obtain ⟨db, hdb⟩ : ∃ b, w5.heap.size = b := ⟨_, rfl⟩
      rw [hdb] at HDB ⊢
      clear hyes hb ha hx hh hdb
      obtain ⟨c0, c1, c2, c3, c4, c5, c6, c7⟩ := rowS8 (HN6.out)
      go_wp2_with fail
      refine (rstrip_any D _ w6 (HD.out.keep HB6.out) HSM.out).mono ?_
      clear c0 c1 c2 c3 c4 c5 c6 c7
      rintro e w7 ⟨y0', y1', y2', ro', rn', rc', so', sn', sc', y5', rfl, hyes, hb⟩
      simp only [HS.out, Bool.false_eq_true, if_false]
      have ha := below1 w7 (.cells #[.int .i64 y0', .string y1', .bool y2', .slice ro' rn' rc', .slice so' sn' sc', .int .i64 y5'] 33)
      have hx := heap_alloc_new w7 (.cells #[.int .i64 y0', .string y1', .bool y2', .slice ro' rn' rc', .slice so' sn' sc', .int .i64 y5'] 33)
      have hh := hb.trans (ha.mono hb.size)
      have HB8 := Lib.hid (HB6.out.trans (hh.mono HB6.out.size))
      have HN8 := Lib.hid ((hh.block _ (Array.getElem?_eq_some_iff.1 HN6.out).1).trans HN6.out)
      have HDL2 := Lib.hid (fun h => (HDL.out h).keep hh)
      have HDB2 := Lib.hid ((hh.block _ (Array.getElem?_eq_some_iff.1 HDB.out).1).trans HDB.out)
      have HKL := Lib.hid (fun h => (hyes h).keep ha)
      have HKB := Lib.hid hx
      go_upto_region 5 with fail
      generalize w7.alloc (.cells #[.int .i64 y0', .string y1', .bool y2', .slice ro' rn' rc', .slice so' sn' sc', .int .i64 y5'] 33) = w8 at *
      obtain ⟨kb, hkb⟩ : ∃ b, w7.heap.size = b := ⟨_, rfl⟩
      rw [hkb] at HKB ⊢
      clear hyes hb ha hx hh hkb
      have HB9 := Lib.hid HB8.out
      have HN9 := Lib.hid HN8.out
      have HLT := Lib.hid (Array.getElem?_eq_some_iff.1 HN9.out).1
      clear HDB HDL
      have HDB := Lib.hid HDB2.out
      obtain ⟨i0, HI⟩ : ∃ b, Hid (idB D = b) := ⟨_, Lib.hid rfl⟩
      by_cases hk1 : 1 ≤ kx
      · obtain ⟨cz, hcz⟩ : ∃ b, decide (kx ≤ 3) = b := ⟨_, rfl⟩
        have HK : Hid (cpdB kx = cz) := Lib.hid (by rw [← hcz]; unfold cpdB; simp [hk1])
        have hk3 : decide (1 ≤ kx) = true := by simpa using hk1
        refine wp_region_slotsG (psi [isV (.agg #[.int .i64 kx, .string tx, .bool nx, .slice xo xn xc, .slice yo yn yc, .int .i64 ax, .slice po pn pc, .slice qo qn qc]), isOw D, isV (.bool false), isV (.agg #[.int .i64 kx, .string tx, .bool nx, .slice xo xn xc, .slice yo yn yc, .int .i64 ax, .slice po pn pc, .slice qo qn qc]), isV (.bool false), isV (.bool true), isV (.bool true), isV (.agg #[.int .i64 kx, .string tx, .bool nx, .slice xo xn xc, .slice yo yn yc, .int .i64 ax, .slice po pn pc, .slice qo qn qc]), isOw D, isV (.bool i0), isV (.agg #[.int .i64 kx, .string tx, .bool nx, .slice xo xn xc, .slice yo yn yc, .int .i64 ax, .slice po pn pc, .slice qo qn qc]), isV (.bool i0), isV (.bool true), isV (.bool true), isV (.bool true), isV (.int .i64 2), isV (.int .i64 2), isV (.bool true), isV (.bool true), isV (.bool true), isV (.int .i64 2), isV (.bool true), isV (.bool true), isV undef, isV undef, isV undef, isV (.bool true), isV (.bool true), isV (.bool true), isV (.agg #[.int .i64 kx, .string tx, .bool nx, .slice xo xn xc, .slice yo yn yc, .int .i64 ax, .slice po pn pc, .slice qo qn qc]), isV (.bool cz), isV (.pointer (some ⟨w.heap.size, 0, none⟩)), isV (.int .i64 kx), isV (.bool true), isV (.bool true), isV (.pointer (some ⟨w.heap.size, 0, none⟩)), isV (.int .i64 kx), isV (.bool cz), isV (.bool cz), isV (.bool true), isV (.bool true), isV (.bool true)]) (fun W => Below w8.heap.size w8 W) (by kernel_rfl) (Below.refl _ _).drew (psi_mono ?_) (by kernel_rfl) (by kernel_rfl) ?_ ?_
        · intro pq hp
          simp only [List.mem_cons, List.not_mem_nil, or_false] at hp
          (repeat' rcases hp with rfl | hp) <;> first | exact isV_stays _ | (subst hp; exact isV_stays _) | exact isOw_stays _ | (subst hp; exact isOw_stays _)
        · refine AllOps.cons ?_ ?_
          · intro ab W hC hB hdep
            refine .inl ⟨rfl, ?_⟩
            have b0 : ab.tmps.getD 1 undef = .pointer (some ⟨w.heap.size, 0, none⟩) := hB.off 1 (by kernel_rfl)
            obtain ⟨c0, c1, c2, c3, c4, c5, c6, c7⟩ := rowS8 ((hC.block _ HLT.out).trans HN9.out)
            clear hB hdep
            refine goes_value (v := .agg #[.int .i64 kx, .string tx, .bool nx, .slice xo xn xc, .slice yo yn yc, .int .i64 ax, .slice po pn pc, .slice qo qn qc]) ?_ hC rfl
            simp only [execOp, Act.eval, b0]
            go_simp
          refine AllOps.cons ?_ ?_
          · intro ab W hC hB hdep
            refine .inl ⟨rfl, ?_⟩
            obtain ⟨x0, (q0 : (isV (.agg #[.int .i64 kx, .string tx, .bool nx, .slice xo xn xc, .slice yo yn yc, .int .i64 ax, .slice po pn pc, .slice qo qn qc])) x0 W), e0⟩ := hdep 0 26 (by kernel_rfl)
            obtain rfl : x0 = .agg #[.int .i64 kx, .string tx, .bool nx, .slice xo xn xc, .slice yo yn yc, .int .i64 ax, .slice po pn pc, .slice qo qn qc] := q0
            clear hB hdep
            refine goes_call (f := 11) (args := #[.agg #[.int .i64 kx, .string tx, .bool nx, .slice xo xn xc, .slice yo yn yc, .int .i64 ax, .slice po pn pc, .slice qo qn qc]]) ?_ ?_
            · simp only [execOp]
              go_simp
            · exact (own_sxK D HSM.out.owk _ W (HD.out.keep (HB9.out.trans (hC.mono HB9.out.size)))).mono fun e w7 ⟨vs, he, hl, hb⟩ => ⟨_, he, hC.trans (hb.mono hC.size), hb, ⟨vs, rfl, hl.lay⟩⟩
          refine AllOps.cons ?_ ?_
          · intro ab W hC hB hdep
            refine .inl ⟨rfl, ?_⟩
            obtain ⟨x0, (q0 : (isOw D) x0 W), e0⟩ := hdep 1 27 (by kernel_rfl)
            skip
            clear hB hdep
            refine goes_call (f := 13) (args := #[x0]) ?_ ?_
            · simp only [execOp]
              go_simp
            · obtain ⟨ua, rfl, hla⟩ := q0
              exact (xsound_any D ua W hla HSM.out (HT.out.below (HB9.out.trans (hC.mono HB9.out.size)) (Nat.le_refl _))).mono fun e w7 ⟨he, hb⟩ => ⟨_, he, hC.trans (hb.mono hC.size), hb, by show Value.bool _ = _; rw [HS.out]⟩
          refine AllOps.cons ?_ ?_
          · intro ab W hC hB hdep
            refine .inl ⟨rfl, ?_⟩
            have b0 : ab.tmps.getD 1 undef = .pointer (some ⟨w.heap.size, 0, none⟩) := hB.off 1 (by kernel_rfl)
            obtain ⟨c0, c1, c2, c3, c4, c5, c6, c7⟩ := rowS8 ((hC.block _ HLT.out).trans HN9.out)
            clear hB hdep
            refine goes_value (v := .agg #[.int .i64 kx, .string tx, .bool nx, .slice xo xn xc, .slice yo yn yc, .int .i64 ax, .slice po pn pc, .slice qo qn qc]) ?_ hC rfl
            simp only [execOp, Act.eval, b0]
            go_simp
          refine AllOps.cons ?_ ?_
          · intro ab W hC hB hdep
            refine .inl ⟨rfl, ?_⟩
            obtain ⟨x0, (q0 : (isV (.agg #[.int .i64 kx, .string tx, .bool nx, .slice xo xn xc, .slice yo yn yc, .int .i64 ax, .slice po pn pc, .slice qo qn qc])) x0 W), e0⟩ := hdep 3 29 (by kernel_rfl)
            obtain rfl : x0 = .agg #[.int .i64 kx, .string tx, .bool nx, .slice xo xn xc, .slice yo yn yc, .int .i64 ax, .slice po pn pc, .slice qo qn qc] := q0
            clear hB hdep
            refine goes_call (f := 14) (args := #[.agg #[.int .i64 kx, .string tx, .bool nx, .slice xo xn xc, .slice yo yn yc, .int .i64 ax, .slice po pn pc, .slice qo qn qc]]) ?_ ?_
            · simp only [execOp]
              go_simp
            · exact (rxsound_any D _ W (HD.out.keep (HB9.out.trans (hC.mono HB9.out.size))) HSM.out).mono fun e w7 ⟨he, hb⟩ => ⟨_, he, hC.trans (hb.mono hC.size), hb, by show Value.bool _ = _; rw [HS.out]⟩
          refine AllOps.cons ?_ ?_
          · intro ab W hC hB hdep
            refine .inl ⟨rfl, ?_⟩
            obtain ⟨x0, (q0 : (isV (.bool false)) x0 W), e0⟩ := hdep 2 28 (by kernel_rfl)
            obtain rfl : x0 = .bool false := q0
            obtain ⟨x1, (q1 : (isV (.bool false)) x1 W), e1⟩ := hdep 4 30 (by kernel_rfl)
            obtain rfl : x1 = .bool false := q1
            clear hB hdep
            refine goes_value (v := .bool true) ?_ hC rfl
            simp only [execOp, Act.eval, e0, e1]
            go_simp
          refine AllOps.cons ?_ ?_
          · intro ab W hC hB hdep
            refine .inl ⟨rfl, ?_⟩
            obtain ⟨x0, (q0 : (isV (.bool true)) x0 W), e0⟩ := hdep 5 31 (by kernel_rfl)
            obtain rfl : x0 = .bool true := q0
            clear hB hdep
            refine goes_value (v := .bool true) ?_ hC rfl
            simp only [execOp, Act.eval, e0]
            go_simp
          refine AllOps.cons ?_ ?_
          · intro ab W hC hB hdep
            obtain ⟨xg, (qg : xg = .bool true), eg⟩ := hdep 6 32 (by kernel_rfl)
            subst qg
            refine .inl ⟨((wanted_is (g := 6) (t := 32) (b := true) (c := true) rfl rfl (by rw [hB.size]; exact Nat.le_of_ble_eq_true rfl) eg).trans rfl), ?_⟩
            have b0 : ab.tmps.getD 1 undef = .pointer (some ⟨w.heap.size, 0, none⟩) := hB.off 1 (by kernel_rfl)
            obtain ⟨c0, c1, c2, c3, c4, c5, c6, c7⟩ := rowS8 ((hC.block _ HLT.out).trans HN9.out)
            clear hB hdep
            refine goes_value (v := .agg #[.int .i64 kx, .string tx, .bool nx, .slice xo xn xc, .slice yo yn yc, .int .i64 ax, .slice po pn pc, .slice qo qn qc]) ?_ hC rfl
            simp only [execOp, Act.eval, b0]
            go_simp
          refine AllOps.cons ?_ ?_
          · intro ab W hC hB hdep
            obtain ⟨xg, (qg : xg = .bool true), eg⟩ := hdep 6 32 (by kernel_rfl)
            subst qg
            refine .inl ⟨((wanted_is (g := 6) (t := 32) (b := true) (c := true) rfl rfl (by rw [hB.size]; exact Nat.le_of_ble_eq_true rfl) eg).trans rfl), ?_⟩
            obtain ⟨x0, (q0 : (isV (.agg #[.int .i64 kx, .string tx, .bool nx, .slice xo xn xc, .slice yo yn yc, .int .i64 ax, .slice po pn pc, .slice qo qn qc])) x0 W), e0⟩ := hdep 7 33 (by kernel_rfl)
            obtain rfl : x0 = .agg #[.int .i64 kx, .string tx, .bool nx, .slice xo xn xc, .slice yo yn yc, .int .i64 ax, .slice po pn pc, .slice qo qn qc] := q0
            clear hB hdep
            refine goes_call (f := 11) (args := #[.agg #[.int .i64 kx, .string tx, .bool nx, .slice xo xn xc, .slice yo yn yc, .int .i64 ax, .slice po pn pc, .slice qo qn qc]]) ?_ ?_
            · simp only [execOp]
              go_simp
            · exact (own_sxK D HSM.out.owk _ W (HD.out.keep (HB9.out.trans (hC.mono HB9.out.size)))).mono fun e w7 ⟨vs, he, hl, hb⟩ => ⟨_, he, hC.trans (hb.mono hC.size), hb, ⟨vs, rfl, hl.lay⟩⟩
          refine AllOps.cons ?_ ?_
          · intro ab W hC hB hdep
            obtain ⟨xg, (qg : xg = .bool true), eg⟩ := hdep 6 32 (by kernel_rfl)
            subst qg
            refine .inl ⟨((wanted_is (g := 6) (t := 32) (b := true) (c := true) rfl rfl (by rw [hB.size]; exact Nat.le_of_ble_eq_true rfl) eg).trans rfl), ?_⟩
            obtain ⟨x0, (q0 : (isOw D) x0 W), e0⟩ := hdep 8 34 (by kernel_rfl)
            skip
            clear hB hdep
            refine goes_call (f := 15) (args := #[x0]) ?_ ?_
            · simp only [execOp]
              go_simp
            · obtain ⟨ua, rfl, hla⟩ := q0
              exact (ident_any D ua W hla HSM.out (HT.out.below (HB9.out.trans (hC.mono HB9.out.size)) (Nat.le_refl _))).mono fun e w7 ⟨he, hb⟩ => ⟨_, he, hC.trans (hb.mono hC.size), hb, by show Value.bool _ = _; rw [HI.out]⟩
          refine AllOps.cons ?_ ?_
          · intro ab W hC hB hdep
            obtain ⟨xg, (qg : xg = .bool true), eg⟩ := hdep 6 32 (by kernel_rfl)
            subst qg
            refine .inl ⟨((wanted_is (g := 6) (t := 32) (b := true) (c := true) rfl rfl (by rw [hB.size]; exact Nat.le_of_ble_eq_true rfl) eg).trans rfl), ?_⟩
            have b0 : ab.tmps.getD 1 undef = .pointer (some ⟨w.heap.size, 0, none⟩) := hB.off 1 (by kernel_rfl)
            obtain ⟨c0, c1, c2, c3, c4, c5, c6, c7⟩ := rowS8 ((hC.block _ HLT.out).trans HN9.out)
            clear hB hdep
            refine goes_value (v := .agg #[.int .i64 kx, .string tx, .bool nx, .slice xo xn xc, .slice yo yn yc, .int .i64 ax, .slice po pn pc, .slice qo qn qc]) ?_ hC rfl
            simp only [execOp, Act.eval, b0]
            go_simp
          refine AllOps.cons ?_ ?_
          · intro ab W hC hB hdep
            obtain ⟨xg, (qg : xg = .bool true), eg⟩ := hdep 6 32 (by kernel_rfl)
            subst qg
            refine .inl ⟨((wanted_is (g := 6) (t := 32) (b := true) (c := true) rfl rfl (by rw [hB.size]; exact Nat.le_of_ble_eq_true rfl) eg).trans rfl), ?_⟩
            obtain ⟨x0, (q0 : (isV (.agg #[.int .i64 kx, .string tx, .bool nx, .slice xo xn xc, .slice yo yn yc, .int .i64 ax, .slice po pn pc, .slice qo qn qc])) x0 W), e0⟩ := hdep 10 36 (by kernel_rfl)
            obtain rfl : x0 = .agg #[.int .i64 kx, .string tx, .bool nx, .slice xo xn xc, .slice yo yn yc, .int .i64 ax, .slice po pn pc, .slice qo qn qc] := q0
            clear hB hdep
            refine goes_call (f := 16) (args := #[.agg #[.int .i64 kx, .string tx, .bool nx, .slice xo xn xc, .slice yo yn yc, .int .i64 ax, .slice po pn pc, .slice qo qn qc]]) ?_ ?_
            · simp only [execOp]
              go_simp
            · exact (rident_any D _ W (HD.out.keep (HB9.out.trans (hC.mono HB9.out.size))) HSM.out).mono fun e w7 ⟨he, hb⟩ => ⟨_, he, hC.trans (hb.mono hC.size), hb, by show Value.bool _ = _; rw [HI.out]⟩
          refine AllOps.cons ?_ ?_
          · intro ab W hC hB hdep
            obtain ⟨xg, (qg : xg = .bool true), eg⟩ := hdep 6 32 (by kernel_rfl)
            subst qg
            refine .inl ⟨((wanted_is (g := 6) (t := 32) (b := true) (c := true) rfl rfl (by rw [hB.size]; exact Nat.le_of_ble_eq_true rfl) eg).trans rfl), ?_⟩
            obtain ⟨x0, (q0 : (isV (.bool i0)) x0 W), e0⟩ := hdep 9 35 (by kernel_rfl)
            obtain rfl : x0 = .bool i0 := q0
            obtain ⟨x1, (q1 : (isV (.bool i0)) x1 W), e1⟩ := hdep 11 37 (by kernel_rfl)
            obtain rfl : x1 = .bool i0 := q1
            clear hB hdep
            refine goes_value (v := .bool true) ?_ hC rfl
            simp only [execOp, Act.eval, e0, e1]
            go_simp
          refine AllOps.cons ?_ ?_
          · intro ab W hC hB hdep
            refine .inl ⟨rfl, ?_⟩
            obtain ⟨x0, (q0 : (isV (.bool true)) x0 W), e0⟩ := hdep 6 32 (by kernel_rfl)
            obtain rfl : x0 = .bool true := q0
            obtain ⟨x1, (q1 : (isV (.bool true)) x1 W), e1⟩ := hdep 12 38 (by kernel_rfl)
            obtain rfl : x1 = .bool true := q1
            clear hB hdep
            refine goes_value (v := .bool true) ?_ hC rfl
            simp only [execOp, Act.eval, e0, e1]
            go_simp
          refine AllOps.cons ?_ ?_
          · intro ab W hC hB hdep
            refine .inl ⟨rfl, ?_⟩
            obtain ⟨x0, (q0 : (isV (.bool true)) x0 W), e0⟩ := hdep 13 39 (by kernel_rfl)
            obtain rfl : x0 = .bool true := q0
            clear hB hdep
            refine goes_value (v := .bool true) ?_ hC rfl
            simp only [execOp, Act.eval, e0]
            go_simp
          refine AllOps.cons ?_ ?_
          · intro ab W hC hB hdep
            obtain ⟨xg, (qg : xg = .bool true), eg⟩ := hdep 14 40 (by kernel_rfl)
            subst qg
            refine .inl ⟨((wanted_is (g := 14) (t := 40) (b := true) (c := true) rfl rfl (by rw [hB.size]; exact Nat.le_of_ble_eq_true rfl) eg).trans rfl), ?_⟩
            have b0 : ab.tmps.getD 4 undef = .int .i64 2 := hB.off 4 (by kernel_rfl)
            clear hB hdep
            refine goes_value (v := .int .i64 2) ?_ hC rfl
            simp only [execOp, Act.eval, b0]
            go_simp
          refine AllOps.cons ?_ ?_
          · intro ab W hC hB hdep
            obtain ⟨xg, (qg : xg = .bool true), eg⟩ := hdep 14 40 (by kernel_rfl)
            subst qg
            refine .inl ⟨((wanted_is (g := 14) (t := 40) (b := true) (c := true) rfl rfl (by rw [hB.size]; exact Nat.le_of_ble_eq_true rfl) eg).trans rfl), ?_⟩
            have b0 : ab.tmps.getD 6 undef = .int .i64 2 := hB.off 6 (by kernel_rfl)
            clear hB hdep
            refine goes_value (v := .int .i64 2) ?_ hC rfl
            simp only [execOp, Act.eval, b0]
            go_simp
          refine AllOps.cons ?_ ?_
          · intro ab W hC hB hdep
            obtain ⟨xg, (qg : xg = .bool true), eg⟩ := hdep 14 40 (by kernel_rfl)
            subst qg
            refine .inl ⟨((wanted_is (g := 14) (t := 40) (b := true) (c := true) rfl rfl (by rw [hB.size]; exact Nat.le_of_ble_eq_true rfl) eg).trans rfl), ?_⟩
            obtain ⟨x0, (q0 : (isV (.int .i64 2)) x0 W), e0⟩ := hdep 15 41 (by kernel_rfl)
            obtain rfl : x0 = .int .i64 2 := q0
            obtain ⟨x1, (q1 : (isV (.int .i64 2)) x1 W), e1⟩ := hdep 16 42 (by kernel_rfl)
            obtain rfl : x1 = .int .i64 2 := q1
            clear hB hdep
            refine goes_value (v := .bool true) ?_ hC rfl
            simp only [execOp, Act.eval, e0, e1]
            go_simp
          refine AllOps.cons ?_ ?_
          · intro ab W hC hB hdep
            refine .inl ⟨rfl, ?_⟩
            obtain ⟨x0, (q0 : (isV (.bool true)) x0 W), e0⟩ := hdep 14 40 (by kernel_rfl)
            obtain rfl : x0 = .bool true := q0
            obtain ⟨x1, (q1 : (isV (.bool true)) x1 W), e1⟩ := hdep 17 43 (by kernel_rfl)
            obtain rfl : x1 = .bool true := q1
            clear hB hdep
            refine goes_value (v := .bool true) ?_ hC rfl
            simp only [execOp, Act.eval, e0, e1]
            go_simp
          refine AllOps.cons ?_ ?_
          · intro ab W hC hB hdep
            refine .inl ⟨rfl, ?_⟩
            obtain ⟨x0, (q0 : (isV (.bool true)) x0 W), e0⟩ := hdep 18 44 (by kernel_rfl)
            obtain rfl : x0 = .bool true := q0
            clear hB hdep
            refine goes_value (v := .bool true) ?_ hC rfl
            simp only [execOp, Act.eval, e0]
            go_simp
          refine AllOps.cons ?_ ?_
          · intro ab W hC hB hdep
            obtain ⟨xg, (qg : xg = .bool true), eg⟩ := hdep 19 45 (by kernel_rfl)
            subst qg
            refine .inl ⟨((wanted_is (g := 19) (t := 45) (b := true) (c := true) rfl rfl (by rw [hB.size]; exact Nat.le_of_ble_eq_true rfl) eg).trans rfl), ?_⟩
            have b0 : ab.tmps.getD 4 undef = .int .i64 2 := hB.off 4 (by kernel_rfl)
            clear hB hdep
            refine goes_value (v := .int .i64 2) ?_ hC rfl
            simp only [execOp, Act.eval, b0]
            go_simp
          refine AllOps.cons ?_ ?_
          · intro ab W hC hB hdep
            obtain ⟨xg, (qg : xg = .bool true), eg⟩ := hdep 19 45 (by kernel_rfl)
            subst qg
            refine .inl ⟨((wanted_is (g := 19) (t := 45) (b := true) (c := true) rfl rfl (by rw [hB.size]; exact Nat.le_of_ble_eq_true rfl) eg).trans rfl), ?_⟩
            obtain ⟨x0, (q0 : (isV (.int .i64 2)) x0 W), e0⟩ := hdep 20 46 (by kernel_rfl)
            obtain rfl : x0 = .int .i64 2 := q0
            clear hB hdep
            refine goes_value (v := .bool true) ?_ hC rfl
            simp only [execOp, Act.eval, e0]
            go_simp
          refine AllOps.cons ?_ ?_
          · intro ab W hC hB hdep
            obtain ⟨xg, (qg : xg = .bool true), eg⟩ := hdep 19 45 (by kernel_rfl)
            subst qg
            refine .inl ⟨((wanted_is (g := 19) (t := 45) (b := true) (c := true) rfl rfl (by rw [hB.size]; exact Nat.le_of_ble_eq_true rfl) eg).trans rfl), ?_⟩
            obtain ⟨x0, (q0 : (isV (.bool true)) x0 W), e0⟩ := hdep 21 47 (by kernel_rfl)
            obtain rfl : x0 = .bool true := q0
            clear hB hdep
            refine goes_value (v := .bool true) ?_ hC rfl
            simp only [execOp, Act.eval, e0]
            go_simp
          refine AllOps.cons ?_ ?_
          · intro ab W hC hB hdep
            obtain ⟨xg, (qg : xg = .bool true), eg⟩ := hdep 22 48 (by kernel_rfl)
            subst qg
            exact .inr ⟨((wanted_is (g := 22) (t := 48) (b := false) (c := true) rfl rfl (by rw [hB.size]; exact Nat.le_of_ble_eq_true rfl) eg).trans rfl), rfl⟩
          refine AllOps.cons ?_ ?_
          · intro ab W hC hB hdep
            obtain ⟨xg, (qg : xg = .bool true), eg⟩ := hdep 22 48 (by kernel_rfl)
            subst qg
            exact .inr ⟨((wanted_is (g := 22) (t := 48) (b := false) (c := true) rfl rfl (by rw [hB.size]; exact Nat.le_of_ble_eq_true rfl) eg).trans rfl), rfl⟩
          refine AllOps.cons ?_ ?_
          · intro ab W hC hB hdep
            obtain ⟨xg, (qg : xg = .bool true), eg⟩ := hdep 22 48 (by kernel_rfl)
            subst qg
            exact .inr ⟨((wanted_is (g := 22) (t := 48) (b := false) (c := true) rfl rfl (by rw [hB.size]; exact Nat.le_of_ble_eq_true rfl) eg).trans rfl), rfl⟩
          refine AllOps.cons ?_ ?_
          · intro ab W hC hB hdep
            obtain ⟨xg, (qg : xg = .bool true), eg⟩ := hdep 19 45 (by kernel_rfl)
            subst qg
            refine .inl ⟨((wanted_is (g := 19) (t := 45) (b := true) (c := true) rfl rfl (by rw [hB.size]; exact Nat.le_of_ble_eq_true rfl) eg).trans rfl), ?_⟩
            obtain ⟨x0, (q0 : (isV (.bool true)) x0 W), e0⟩ := hdep 22 48 (by kernel_rfl)
            obtain rfl : x0 = .bool true := q0
            obtain ⟨x1, (q1 : (isV undef) x1 W), e1⟩ := hdep 25 51 (by kernel_rfl)
            obtain rfl : x1 = undef := q1
            clear hB hdep
            refine goes_value (v := .bool true) ?_ hC rfl
            simp only [execOp, Act.eval, e0, e1]
            go_simp
          refine AllOps.cons ?_ ?_
          · intro ab W hC hB hdep
            refine .inl ⟨rfl, ?_⟩
            obtain ⟨x0, (q0 : (isV (.bool true)) x0 W), e0⟩ := hdep 19 45 (by kernel_rfl)
            obtain rfl : x0 = .bool true := q0
            obtain ⟨x1, (q1 : (isV (.bool true)) x1 W), e1⟩ := hdep 26 52 (by kernel_rfl)
            obtain rfl : x1 = .bool true := q1
            clear hB hdep
            refine goes_value (v := .bool true) ?_ hC rfl
            simp only [execOp, Act.eval, e0, e1]
            go_simp
          refine AllOps.cons ?_ ?_
          · intro ab W hC hB hdep
            refine .inl ⟨rfl, ?_⟩
            obtain ⟨x0, (q0 : (isV (.bool true)) x0 W), e0⟩ := hdep 27 53 (by kernel_rfl)
            obtain rfl : x0 = .bool true := q0
            clear hB hdep
            refine goes_value (v := .bool true) ?_ hC rfl
            simp only [execOp, Act.eval, e0]
            go_simp
          refine AllOps.cons ?_ ?_
          · intro ab W hC hB hdep
            obtain ⟨xg, (qg : xg = .bool true), eg⟩ := hdep 28 54 (by kernel_rfl)
            subst qg
            refine .inl ⟨((wanted_is (g := 28) (t := 54) (b := true) (c := true) rfl rfl (by rw [hB.size]; exact Nat.le_of_ble_eq_true rfl) eg).trans rfl), ?_⟩
            have b0 : ab.tmps.getD 1 undef = .pointer (some ⟨w.heap.size, 0, none⟩) := hB.off 1 (by kernel_rfl)
            obtain ⟨c0, c1, c2, c3, c4, c5, c6, c7⟩ := rowS8 ((hC.block _ HLT.out).trans HN9.out)
            clear hB hdep
            refine goes_value (v := .agg #[.int .i64 kx, .string tx, .bool nx, .slice xo xn xc, .slice yo yn yc, .int .i64 ax, .slice po pn pc, .slice qo qn qc]) ?_ hC rfl
            simp only [execOp, Act.eval, b0]
            go_simp
          refine AllOps.cons ?_ ?_
          · intro ab W hC hB hdep
            obtain ⟨xg, (qg : xg = .bool true), eg⟩ := hdep 28 54 (by kernel_rfl)
            subst qg
            refine .inl ⟨((wanted_is (g := 28) (t := 54) (b := true) (c := true) rfl rfl (by rw [hB.size]; exact Nat.le_of_ble_eq_true rfl) eg).trans rfl), ?_⟩
            obtain ⟨x0, (q0 : (isV (.agg #[.int .i64 kx, .string tx, .bool nx, .slice xo xn xc, .slice yo yn yc, .int .i64 ax, .slice po pn pc, .slice qo qn qc])) x0 W), e0⟩ := hdep 29 55 (by kernel_rfl)
            obtain rfl : x0 = .agg #[.int .i64 kx, .string tx, .bool nx, .slice xo xn xc, .slice yo yn yc, .int .i64 ax, .slice po pn pc, .slice qo qn qc] := q0
            clear hB hdep
            refine goes_call (f := 18) (args := #[.agg #[.int .i64 kx, .string tx, .bool nx, .slice xo xn xc, .slice yo yn yc, .int .i64 ax, .slice po pn pc, .slice qo qn qc]]) ?_ ?_
            · simp only [execOp]
              go_simp
            · exact (compound_any kx tx nx xo xn xc yo yn yc ax po pn pc qo qn qc W).mono fun e w7 ⟨he, hb⟩ => ⟨_, he, hC.trans (hb.mono hC.size), hb, by show Value.bool _ = _; rw [HK.out]⟩
          refine AllOps.cons ?_ ?_
          · intro ab W hC hB hdep
            obtain ⟨xg, (qg : xg = .bool true), eg⟩ := hdep 28 54 (by kernel_rfl)
            subst qg
            refine .inl ⟨((wanted_is (g := 28) (t := 54) (b := true) (c := true) rfl rfl (by rw [hB.size]; exact Nat.le_of_ble_eq_true rfl) eg).trans rfl), ?_⟩
            have b0 : ab.tmps.getD 1 undef = .pointer (some ⟨w.heap.size, 0, none⟩) := hB.off 1 (by kernel_rfl)
            clear hB hdep
            refine goes_value (v := .pointer (some ⟨w.heap.size, 0, none⟩)) ?_ hC rfl
            simp only [execOp, Act.eval, b0]
            go_simp
          refine AllOps.cons ?_ ?_
          · intro ab W hC hB hdep
            obtain ⟨xg, (qg : xg = .bool true), eg⟩ := hdep 28 54 (by kernel_rfl)
            subst qg
            refine .inl ⟨((wanted_is (g := 28) (t := 54) (b := true) (c := true) rfl rfl (by rw [hB.size]; exact Nat.le_of_ble_eq_true rfl) eg).trans rfl), ?_⟩
            obtain ⟨x0, (q0 : (isV (.pointer (some ⟨w.heap.size, 0, none⟩))) x0 W), e0⟩ := hdep 31 57 (by kernel_rfl)
            obtain rfl : x0 = .pointer (some ⟨w.heap.size, 0, none⟩) := q0
            obtain ⟨c0, c1, c2, c3, c4, c5, c6, c7⟩ := rowS8 ((hC.block _ HLT.out).trans HN9.out)
            clear hB hdep
            refine goes_value (v := .int .i64 kx) ?_ hC rfl
            simp only [execOp, Act.eval, e0]
            go_simp
          refine AllOps.cons ?_ ?_
          · intro ab W hC hB hdep
            obtain ⟨xg, (qg : xg = .bool true), eg⟩ := hdep 28 54 (by kernel_rfl)
            subst qg
            refine .inl ⟨((wanted_is (g := 28) (t := 54) (b := true) (c := true) rfl rfl (by rw [hB.size]; exact Nat.le_of_ble_eq_true rfl) eg).trans rfl), ?_⟩
            obtain ⟨x0, (q0 : (isV (.int .i64 kx)) x0 W), e0⟩ := hdep 32 58 (by kernel_rfl)
            obtain rfl : x0 = .int .i64 kx := q0
            clear hB hdep
            refine goes_value (v := .bool true) ?_ hC rfl
            simp only [execOp, Act.eval, e0]
            go_simp
          refine AllOps.cons ?_ ?_
          · intro ab W hC hB hdep
            obtain ⟨xg, (qg : xg = .bool true), eg⟩ := hdep 28 54 (by kernel_rfl)
            subst qg
            refine .inl ⟨((wanted_is (g := 28) (t := 54) (b := true) (c := true) rfl rfl (by rw [hB.size]; exact Nat.le_of_ble_eq_true rfl) eg).trans rfl), ?_⟩
            obtain ⟨x0, (q0 : (isV (.bool true)) x0 W), e0⟩ := hdep 33 59 (by kernel_rfl)
            obtain rfl : x0 = .bool true := q0
            clear hB hdep
            refine goes_value (v := .bool true) ?_ hC rfl
            simp only [execOp, Act.eval, e0]
            go_simp
          refine AllOps.cons ?_ ?_
          · intro ab W hC hB hdep
            obtain ⟨xg, (qg : xg = .bool true), eg⟩ := hdep 34 60 (by kernel_rfl)
            subst qg
            refine .inl ⟨((wanted_is (g := 34) (t := 60) (b := true) (c := true) rfl rfl (by rw [hB.size]; exact Nat.le_of_ble_eq_true rfl) eg).trans rfl), ?_⟩
            have b0 : ab.tmps.getD 1 undef = .pointer (some ⟨w.heap.size, 0, none⟩) := hB.off 1 (by kernel_rfl)
            clear hB hdep
            refine goes_value (v := .pointer (some ⟨w.heap.size, 0, none⟩)) ?_ hC rfl
            simp only [execOp, Act.eval, b0]
            go_simp
          refine AllOps.cons ?_ ?_
          · intro ab W hC hB hdep
            obtain ⟨xg, (qg : xg = .bool true), eg⟩ := hdep 34 60 (by kernel_rfl)
            subst qg
            refine .inl ⟨((wanted_is (g := 34) (t := 60) (b := true) (c := true) rfl rfl (by rw [hB.size]; exact Nat.le_of_ble_eq_true rfl) eg).trans rfl), ?_⟩
            obtain ⟨x0, (q0 : (isV (.pointer (some ⟨w.heap.size, 0, none⟩))) x0 W), e0⟩ := hdep 35 61 (by kernel_rfl)
            obtain rfl : x0 = .pointer (some ⟨w.heap.size, 0, none⟩) := q0
            obtain ⟨c0, c1, c2, c3, c4, c5, c6, c7⟩ := rowS8 ((hC.block _ HLT.out).trans HN9.out)
            clear hB hdep
            refine goes_value (v := .int .i64 kx) ?_ hC rfl
            simp only [execOp, Act.eval, e0]
            go_simp
          refine AllOps.cons ?_ ?_
          · intro ab W hC hB hdep
            obtain ⟨xg, (qg : xg = .bool true), eg⟩ := hdep 34 60 (by kernel_rfl)
            subst qg
            refine .inl ⟨((wanted_is (g := 34) (t := 60) (b := true) (c := true) rfl rfl (by rw [hB.size]; exact Nat.le_of_ble_eq_true rfl) eg).trans rfl), ?_⟩
            obtain ⟨x0, (q0 : (isV (.int .i64 kx)) x0 W), e0⟩ := hdep 36 62 (by kernel_rfl)
            obtain rfl : x0 = .int .i64 kx := q0
            clear hB hdep
            refine goes_value (v := .bool cz) ?_ hC rfl
            simp only [execOp, Act.eval, e0]
            go_simp
          refine AllOps.cons ?_ ?_
          · intro ab W hC hB hdep
            obtain ⟨xg, (qg : xg = .bool true), eg⟩ := hdep 28 54 (by kernel_rfl)
            subst qg
            refine .inl ⟨((wanted_is (g := 28) (t := 54) (b := true) (c := true) rfl rfl (by rw [hB.size]; exact Nat.le_of_ble_eq_true rfl) eg).trans rfl), ?_⟩
            obtain ⟨x0, (q0 : (isV (.bool true)) x0 W), e0⟩ := hdep 34 60 (by kernel_rfl)
            obtain rfl : x0 = .bool true := q0
            obtain ⟨x1, (q1 : (isV (.bool cz)) x1 W), e1⟩ := hdep 37 63 (by kernel_rfl)
            obtain rfl : x1 = .bool cz := q1
            clear hB hdep
            refine goes_value (v := .bool cz) ?_ hC rfl
            simp only [execOp, Act.eval, e0, e1]
            go_simp
          refine AllOps.cons ?_ ?_
          · intro ab W hC hB hdep
            obtain ⟨xg, (qg : xg = .bool true), eg⟩ := hdep 28 54 (by kernel_rfl)
            subst qg
            refine .inl ⟨((wanted_is (g := 28) (t := 54) (b := true) (c := true) rfl rfl (by rw [hB.size]; exact Nat.le_of_ble_eq_true rfl) eg).trans rfl), ?_⟩
            obtain ⟨x0, (q0 : (isV (.bool cz)) x0 W), e0⟩ := hdep 30 56 (by kernel_rfl)
            obtain rfl : x0 = .bool cz := q0
            obtain ⟨x1, (q1 : (isV (.bool cz)) x1 W), e1⟩ := hdep 38 64 (by kernel_rfl)
            obtain rfl : x1 = .bool cz := q1
            clear hB hdep
            refine goes_value (v := .bool true) ?_ hC rfl
            simp only [execOp, Act.eval, e0, e1]
            go_simp
          refine AllOps.cons ?_ ?_
          · intro ab W hC hB hdep
            refine .inl ⟨rfl, ?_⟩
            obtain ⟨x0, (q0 : (isV (.bool true)) x0 W), e0⟩ := hdep 28 54 (by kernel_rfl)
            obtain rfl : x0 = .bool true := q0
            obtain ⟨x1, (q1 : (isV (.bool true)) x1 W), e1⟩ := hdep 39 65 (by kernel_rfl)
            obtain rfl : x1 = .bool true := q1
            clear hB hdep
            refine goes_value (v := .bool true) ?_ hC rfl
            simp only [execOp, Act.eval, e0, e1]
            go_simp
          refine AllOps.cons ?_ ?_
          · intro ab W hC hB hdep
            refine .inl ⟨rfl, ?_⟩
            obtain ⟨x0, (q0 : (isV (.bool true)) x0 W), e0⟩ := hdep 40 66 (by kernel_rfl)
            obtain rfl : x0 = .bool true := q0
            clear hB hdep
            refine goes_value (v := .bool true) ?_ hC rfl
            simp only [execOp, Act.eval, e0]
            go_simp
          exact trivial
        · intro aa wC hC hB hall
          obtain ⟨v0, (k0 : v0 = .agg #[.int .i64 kx, .string tx, .bool nx, .slice xo xn xc, .slice yo yn yc, .int .i64 ax, .slice po pn pc, .slice qo qn qc]), e0⟩ := hall 0 _ rfl
          obtain ⟨v1, (k1 : (isOw D) v1 wC), e1⟩ := hall 1 _ rfl
          obtain ⟨v2, (k2 : v2 = .bool false), e2⟩ := hall 2 _ rfl
          obtain ⟨v3, (k3 : v3 = .agg #[.int .i64 kx, .string tx, .bool nx, .slice xo xn xc, .slice yo yn yc, .int .i64 ax, .slice po pn pc, .slice qo qn qc]), e3⟩ := hall 3 _ rfl
          obtain ⟨v4, (k4 : v4 = .bool false), e4⟩ := hall 4 _ rfl
          obtain ⟨v5, (k5 : v5 = .bool true), e5⟩ := hall 5 _ rfl
          obtain ⟨v6, (k6 : v6 = .bool true), e6⟩ := hall 6 _ rfl
          obtain ⟨v7, (k7 : v7 = .agg #[.int .i64 kx, .string tx, .bool nx, .slice xo xn xc, .slice yo yn yc, .int .i64 ax, .slice po pn pc, .slice qo qn qc]), e7⟩ := hall 7 _ rfl
          obtain ⟨v8, (k8 : (isOw D) v8 wC), e8⟩ := hall 8 _ rfl
          obtain ⟨v9, (k9 : v9 = .bool i0), e9⟩ := hall 9 _ rfl
          obtain ⟨v10, (k10 : v10 = .agg #[.int .i64 kx, .string tx, .bool nx, .slice xo xn xc, .slice yo yn yc, .int .i64 ax, .slice po pn pc, .slice qo qn qc]), e10⟩ := hall 10 _ rfl
          obtain ⟨v11, (k11 : v11 = .bool i0), e11⟩ := hall 11 _ rfl
          obtain ⟨v12, (k12 : v12 = .bool true), e12⟩ := hall 12 _ rfl
          obtain ⟨v13, (k13 : v13 = .bool true), e13⟩ := hall 13 _ rfl
          obtain ⟨v14, (k14 : v14 = .bool true), e14⟩ := hall 14 _ rfl
          obtain ⟨v15, (k15 : v15 = .int .i64 2), e15⟩ := hall 15 _ rfl
          obtain ⟨v16, (k16 : v16 = .int .i64 2), e16⟩ := hall 16 _ rfl
          obtain ⟨v17, (k17 : v17 = .bool true), e17⟩ := hall 17 _ rfl
          obtain ⟨v18, (k18 : v18 = .bool true), e18⟩ := hall 18 _ rfl
          obtain ⟨v19, (k19 : v19 = .bool true), e19⟩ := hall 19 _ rfl
          obtain ⟨v20, (k20 : v20 = .int .i64 2), e20⟩ := hall 20 _ rfl
          obtain ⟨v21, (k21 : v21 = .bool true), e21⟩ := hall 21 _ rfl
          obtain ⟨v22, (k22 : v22 = .bool true), e22⟩ := hall 22 _ rfl
          obtain ⟨v23, (k23 : v23 = undef), e23⟩ := hall 23 _ rfl
          obtain ⟨v24, (k24 : v24 = undef), e24⟩ := hall 24 _ rfl
          obtain ⟨v25, (k25 : v25 = undef), e25⟩ := hall 25 _ rfl
          obtain ⟨v26, (k26 : v26 = .bool true), e26⟩ := hall 26 _ rfl
          obtain ⟨v27, (k27 : v27 = .bool true), e27⟩ := hall 27 _ rfl
          obtain ⟨v28, (k28 : v28 = .bool true), e28⟩ := hall 28 _ rfl
          obtain ⟨v29, (k29 : v29 = .agg #[.int .i64 kx, .string tx, .bool nx, .slice xo xn xc, .slice yo yn yc, .int .i64 ax, .slice po pn pc, .slice qo qn qc]), e29⟩ := hall 29 _ rfl
          obtain ⟨v30, (k30 : v30 = .bool cz), e30⟩ := hall 30 _ rfl
          obtain ⟨v31, (k31 : v31 = .pointer (some ⟨w.heap.size, 0, none⟩)), e31⟩ := hall 31 _ rfl
          obtain ⟨v32, (k32 : v32 = .int .i64 kx), e32⟩ := hall 32 _ rfl
          obtain ⟨v33, (k33 : v33 = .bool true), e33⟩ := hall 33 _ rfl
          obtain ⟨v34, (k34 : v34 = .bool true), e34⟩ := hall 34 _ rfl
          obtain ⟨v35, (k35 : v35 = .pointer (some ⟨w.heap.size, 0, none⟩)), e35⟩ := hall 35 _ rfl
          obtain ⟨v36, (k36 : v36 = .int .i64 kx), e36⟩ := hall 36 _ rfl
          obtain ⟨v37, (k37 : v37 = .bool cz), e37⟩ := hall 37 _ rfl
          obtain ⟨v38, (k38 : v38 = .bool cz), e38⟩ := hall 38 _ rfl
          obtain ⟨v39, (k39 : v39 = .bool true), e39⟩ := hall 39 _ rfl
          obtain ⟨v40, (k40 : v40 = .bool true), e40⟩ := hall 40 _ rfl
          obtain ⟨v41, (k41 : v41 = .bool true), e41⟩ := hall 41 _ rfl
          subst k0 k2 k3 k4 k5 k6 k7 k9 k10 k11 k12 k13 k14 k15 k16 k17 k18 k19 k20 k21 k22 k23 k24 k25 k26 k27 k28 k29 k30 k31 k32 k33 k34 k35 k36 k37 k38 k39 k40 k41
          have hv : ∀ pq ∈ [((26 : Nat), (.agg #[.int .i64 kx, .string tx, .bool nx, .slice xo xn xc, .slice yo yn yc, .int .i64 ax, .slice po pn pc, .slice qo qn qc] : Value)), ((27 : Nat), (v1 : Value)), ((28 : Nat), (.bool false : Value)), ((29 : Nat), (.agg #[.int .i64 kx, .string tx, .bool nx, .slice xo xn xc, .slice yo yn yc, .int .i64 ax, .slice po pn pc, .slice qo qn qc] : Value)), ((30 : Nat), (.bool false : Value)), ((31 : Nat), (.bool true : Value)), ((32 : Nat), (.bool true : Value)), ((33 : Nat), (.agg #[.int .i64 kx, .string tx, .bool nx, .slice xo xn xc, .slice yo yn yc, .int .i64 ax, .slice po pn pc, .slice qo qn qc] : Value)), ((34 : Nat), (v8 : Value)), ((35 : Nat), (.bool i0 : Value)), ((36 : Nat), (.agg #[.int .i64 kx, .string tx, .bool nx, .slice xo xn xc, .slice yo yn yc, .int .i64 ax, .slice po pn pc, .slice qo qn qc] : Value)), ((37 : Nat), (.bool i0 : Value)), ((38 : Nat), (.bool true : Value)), ((39 : Nat), (.bool true : Value)), ((40 : Nat), (.bool true : Value)), ((41 : Nat), (.int .i64 2 : Value)), ((42 : Nat), (.int .i64 2 : Value)), ((43 : Nat), (.bool true : Value)), ((44 : Nat), (.bool true : Value)), ((45 : Nat), (.bool true : Value)), ((46 : Nat), (.int .i64 2 : Value)), ((47 : Nat), (.bool true : Value)), ((48 : Nat), (.bool true : Value)), ((49 : Nat), (undef : Value)), ((50 : Nat), (undef : Value)), ((51 : Nat), (undef : Value)), ((52 : Nat), (.bool true : Value)), ((53 : Nat), (.bool true : Value)), ((54 : Nat), (.bool true : Value)), ((55 : Nat), (.agg #[.int .i64 kx, .string tx, .bool nx, .slice xo xn xc, .slice yo yn yc, .int .i64 ax, .slice po pn pc, .slice qo qn qc] : Value)), ((56 : Nat), (.bool cz : Value)), ((57 : Nat), (.pointer (some ⟨w.heap.size, 0, none⟩) : Value)), ((58 : Nat), (.int .i64 kx : Value)), ((59 : Nat), (.bool true : Value)), ((60 : Nat), (.bool true : Value)), ((61 : Nat), (.pointer (some ⟨w.heap.size, 0, none⟩) : Value)), ((62 : Nat), (.int .i64 kx : Value)), ((63 : Nat), (.bool cz : Value)), ((64 : Nat), (.bool cz : Value)), ((65 : Nat), (.bool true : Value)), ((66 : Nat), (.bool true : Value)), ((2 : Nat), (.bool true : Value))], aa.tmps.getD pq.1 undef = pq.2 := by
            intro pq hp
            simp only [List.mem_cons, List.not_mem_nil, or_false] at hp
            rcases hp with rfl | rfl | rfl | rfl | rfl | rfl | rfl | rfl | rfl | rfl | rfl | rfl | rfl | rfl | rfl | rfl | rfl | rfl | rfl | rfl | rfl | rfl | rfl | rfl | rfl | rfl | rfl | rfl | rfl | rfl | rfl | rfl | rfl | rfl | rfl | rfl | rfl | rfl | rfl | rfl | rfl | rfl
            · exact e0 _ rfl
            · exact e1 _ rfl
            · exact e2 _ rfl
            · exact e3 _ rfl
            · exact e4 _ rfl
            · exact e5 _ rfl
            · exact e6 _ rfl
            · exact e7 _ rfl
            · exact e8 _ rfl
            · exact e9 _ rfl
            · exact e10 _ rfl
            · exact e11 _ rfl
            · exact e12 _ rfl
            · exact e13 _ rfl
            · exact e14 _ rfl
            · exact e15 _ rfl
            · exact e16 _ rfl
            · exact e17 _ rfl
            · exact e18 _ rfl
            · exact e19 _ rfl
            · exact e20 _ rfl
            · exact e21 _ rfl
            · exact e22 _ rfl
            · exact e23 _ rfl
            · exact e24 _ rfl
            · exact e25 _ rfl
            · exact e26 _ rfl
            · exact e27 _ rfl
            · exact e28 _ rfl
            · exact e29 _ rfl
            · exact e30 _ rfl
            · exact e31 _ rfl
            · exact e32 _ rfl
            · exact e33 _ rfl
            · exact e34 _ rfl
            · exact e35 _ rfl
            · exact e36 _ rfl
            · exact e37 _ rfl
            · exact e38 _ rfl
            · exact e39 _ rfl
            · exact e40 _ rfl
            · exact e41 _ rfl
          have hact := act_fold _ hB hv (by kernel_rfl)
          subst hact
          clear hv hall hB e0 e1 e2 e3 e4 e5 e6 e7 e8 e9 e10 e11 e12 e13 e14 e15 e16 e17 e18 e19 e20 e21 e22 e23 e24 e25 e26 e27 e28 e29 e30 e31 e32 e33 e34 e35 e36 e37 e38 e39 e40 e41
          refine (‹∀ (a : Act) (w : World), Code.wp Tryz.prog _ _ a w → _›) _ wC ?_
          simp only [List.foldl, List.setIfInBounds_toArray, List.set_cons_succ, List.set_cons_zero]
          have HC := Lib.hid (HB9.out.trans (hC.mono HB9.out.size))
          clear hC
          go_wp2_with fail
          go_ret
          exact ⟨rfl, HC.out⟩
      · have HK : Hid (cpdB kx = false) := Lib.hid (by unfold cpdB; simp [hk1])
        have hk3 : decide (1 ≤ kx) = false := by simpa using hk1
        refine wp_region_slotsG (psi [isV (.agg #[.int .i64 kx, .string tx, .bool nx, .slice xo xn xc, .slice yo yn yc, .int .i64 ax, .slice po pn pc, .slice qo qn qc]), isOw D, isV (.bool false), isV (.agg #[.int .i64 kx, .string tx, .bool nx, .slice xo xn xc, .slice yo yn yc, .int .i64 ax, .slice po pn pc, .slice qo qn qc]), isV (.bool false), isV (.bool true), isV (.bool true), isV (.agg #[.int .i64 kx, .string tx, .bool nx, .slice xo xn xc, .slice yo yn yc, .int .i64 ax, .slice po pn pc, .slice qo qn qc]), isOw D, isV (.bool i0), isV (.agg #[.int .i64 kx, .string tx, .bool nx, .slice xo xn xc, .slice yo yn yc, .int .i64 ax, .slice po pn pc, .slice qo qn qc]), isV (.bool i0), isV (.bool true), isV (.bool true), isV (.bool true), isV (.int .i64 2), isV (.int .i64 2), isV (.bool true), isV (.bool true), isV (.bool true), isV (.int .i64 2), isV (.bool true), isV (.bool true), isV undef, isV undef, isV undef, isV (.bool true), isV (.bool true), isV (.bool true), isV (.agg #[.int .i64 kx, .string tx, .bool nx, .slice xo xn xc, .slice yo yn yc, .int .i64 ax, .slice po pn pc, .slice qo qn qc]), isV (.bool false), isV (.pointer (some ⟨w.heap.size, 0, none⟩)), isV (.int .i64 kx), isV (.bool false), isV (.bool false), isV undef, isV undef, isV undef, isV (.bool false), isV (.bool true), isV (.bool true), isV (.bool true)]) (fun W => Below w8.heap.size w8 W) (by kernel_rfl) (Below.refl _ _).drew (psi_mono ?_) (by kernel_rfl) (by kernel_rfl) ?_ ?_
        · intro pq hp
          simp only [List.mem_cons, List.not_mem_nil, or_false] at hp
          (repeat' rcases hp with rfl | hp) <;> first | exact isV_stays _ | (subst hp; exact isV_stays _) | exact isOw_stays _ | (subst hp; exact isOw_stays _)
        · refine AllOps.cons ?_ ?_
          · intro ab W hC hB hdep
            refine .inl ⟨rfl, ?_⟩
            have b0 : ab.tmps.getD 1 undef = .pointer (some ⟨w.heap.size, 0, none⟩) := hB.off 1 (by kernel_rfl)
            obtain ⟨c0, c1, c2, c3, c4, c5, c6, c7⟩ := rowS8 ((hC.block _ HLT.out).trans HN9.out)
            clear hB hdep
            refine goes_value (v := .agg #[.int .i64 kx, .string tx, .bool nx, .slice xo xn xc, .slice yo yn yc, .int .i64 ax, .slice po pn pc, .slice qo qn qc]) ?_ hC rfl
            simp only [execOp, Act.eval, b0]
            go_simp
          refine AllOps.cons ?_ ?_
          · intro ab W hC hB hdep
            refine .inl ⟨rfl, ?_⟩
            obtain ⟨x0, (q0 : (isV (.agg #[.int .i64 kx, .string tx, .bool nx, .slice xo xn xc, .slice yo yn yc, .int .i64 ax, .slice po pn pc, .slice qo qn qc])) x0 W), e0⟩ := hdep 0 26 (by kernel_rfl)
            obtain rfl : x0 = .agg #[.int .i64 kx, .string tx, .bool nx, .slice xo xn xc, .slice yo yn yc, .int .i64 ax, .slice po pn pc, .slice qo qn qc] := q0
            clear hB hdep
            refine goes_call (f := 11) (args := #[.agg #[.int .i64 kx, .string tx, .bool nx, .slice xo xn xc, .slice yo yn yc, .int .i64 ax, .slice po pn pc, .slice qo qn qc]]) ?_ ?_
            · simp only [execOp]
              go_simp
            · exact (own_sxK D HSM.out.owk _ W (HD.out.keep (HB9.out.trans (hC.mono HB9.out.size)))).mono fun e w7 ⟨vs, he, hl, hb⟩ => ⟨_, he, hC.trans (hb.mono hC.size), hb, ⟨vs, rfl, hl.lay⟩⟩
          refine AllOps.cons ?_ ?_
          · intro ab W hC hB hdep
            refine .inl ⟨rfl, ?_⟩
            obtain ⟨x0, (q0 : (isOw D) x0 W), e0⟩ := hdep 1 27 (by kernel_rfl)
            skip
            clear hB hdep
            refine goes_call (f := 13) (args := #[x0]) ?_ ?_
            · simp only [execOp]
              go_simp
            · obtain ⟨ua, rfl, hla⟩ := q0
              exact (xsound_any D ua W hla HSM.out (HT.out.below (HB9.out.trans (hC.mono HB9.out.size)) (Nat.le_refl _))).mono fun e w7 ⟨he, hb⟩ => ⟨_, he, hC.trans (hb.mono hC.size), hb, by show Value.bool _ = _; rw [HS.out]⟩
          refine AllOps.cons ?_ ?_
          · intro ab W hC hB hdep
            refine .inl ⟨rfl, ?_⟩
            have b0 : ab.tmps.getD 1 undef = .pointer (some ⟨w.heap.size, 0, none⟩) := hB.off 1 (by kernel_rfl)
            obtain ⟨c0, c1, c2, c3, c4, c5, c6, c7⟩ := rowS8 ((hC.block _ HLT.out).trans HN9.out)
            clear hB hdep
            refine goes_value (v := .agg #[.int .i64 kx, .string tx, .bool nx, .slice xo xn xc, .slice yo yn yc, .int .i64 ax, .slice po pn pc, .slice qo qn qc]) ?_ hC rfl
            simp only [execOp, Act.eval, b0]
            go_simp
          refine AllOps.cons ?_ ?_
          · intro ab W hC hB hdep
            refine .inl ⟨rfl, ?_⟩
            obtain ⟨x0, (q0 : (isV (.agg #[.int .i64 kx, .string tx, .bool nx, .slice xo xn xc, .slice yo yn yc, .int .i64 ax, .slice po pn pc, .slice qo qn qc])) x0 W), e0⟩ := hdep 3 29 (by kernel_rfl)
            obtain rfl : x0 = .agg #[.int .i64 kx, .string tx, .bool nx, .slice xo xn xc, .slice yo yn yc, .int .i64 ax, .slice po pn pc, .slice qo qn qc] := q0
            clear hB hdep
            refine goes_call (f := 14) (args := #[.agg #[.int .i64 kx, .string tx, .bool nx, .slice xo xn xc, .slice yo yn yc, .int .i64 ax, .slice po pn pc, .slice qo qn qc]]) ?_ ?_
            · simp only [execOp]
              go_simp
            · exact (rxsound_any D _ W (HD.out.keep (HB9.out.trans (hC.mono HB9.out.size))) HSM.out).mono fun e w7 ⟨he, hb⟩ => ⟨_, he, hC.trans (hb.mono hC.size), hb, by show Value.bool _ = _; rw [HS.out]⟩
          refine AllOps.cons ?_ ?_
          · intro ab W hC hB hdep
            refine .inl ⟨rfl, ?_⟩
            obtain ⟨x0, (q0 : (isV (.bool false)) x0 W), e0⟩ := hdep 2 28 (by kernel_rfl)
            obtain rfl : x0 = .bool false := q0
            obtain ⟨x1, (q1 : (isV (.bool false)) x1 W), e1⟩ := hdep 4 30 (by kernel_rfl)
            obtain rfl : x1 = .bool false := q1
            clear hB hdep
            refine goes_value (v := .bool true) ?_ hC rfl
            simp only [execOp, Act.eval, e0, e1]
            go_simp
          refine AllOps.cons ?_ ?_
          · intro ab W hC hB hdep
            refine .inl ⟨rfl, ?_⟩
            obtain ⟨x0, (q0 : (isV (.bool true)) x0 W), e0⟩ := hdep 5 31 (by kernel_rfl)
            obtain rfl : x0 = .bool true := q0
            clear hB hdep
            refine goes_value (v := .bool true) ?_ hC rfl
            simp only [execOp, Act.eval, e0]
            go_simp
          refine AllOps.cons ?_ ?_
          · intro ab W hC hB hdep
            obtain ⟨xg, (qg : xg = .bool true), eg⟩ := hdep 6 32 (by kernel_rfl)
            subst qg
            refine .inl ⟨((wanted_is (g := 6) (t := 32) (b := true) (c := true) rfl rfl (by rw [hB.size]; exact Nat.le_of_ble_eq_true rfl) eg).trans rfl), ?_⟩
            have b0 : ab.tmps.getD 1 undef = .pointer (some ⟨w.heap.size, 0, none⟩) := hB.off 1 (by kernel_rfl)
            obtain ⟨c0, c1, c2, c3, c4, c5, c6, c7⟩ := rowS8 ((hC.block _ HLT.out).trans HN9.out)
            clear hB hdep
            refine goes_value (v := .agg #[.int .i64 kx, .string tx, .bool nx, .slice xo xn xc, .slice yo yn yc, .int .i64 ax, .slice po pn pc, .slice qo qn qc]) ?_ hC rfl
            simp only [execOp, Act.eval, b0]
            go_simp
          refine AllOps.cons ?_ ?_
          · intro ab W hC hB hdep
            obtain ⟨xg, (qg : xg = .bool true), eg⟩ := hdep 6 32 (by kernel_rfl)
            subst qg
            refine .inl ⟨((wanted_is (g := 6) (t := 32) (b := true) (c := true) rfl rfl (by rw [hB.size]; exact Nat.le_of_ble_eq_true rfl) eg).trans rfl), ?_⟩
            obtain ⟨x0, (q0 : (isV (.agg #[.int .i64 kx, .string tx, .bool nx, .slice xo xn xc, .slice yo yn yc, .int .i64 ax, .slice po pn pc, .slice qo qn qc])) x0 W), e0⟩ := hdep 7 33 (by kernel_rfl)
            obtain rfl : x0 = .agg #[.int .i64 kx, .string tx, .bool nx, .slice xo xn xc, .slice yo yn yc, .int .i64 ax, .slice po pn pc, .slice qo qn qc] := q0
            clear hB hdep
            refine goes_call (f := 11) (args := #[.agg #[.int .i64 kx, .string tx, .bool nx, .slice xo xn xc, .slice yo yn yc, .int .i64 ax, .slice po pn pc, .slice qo qn qc]]) ?_ ?_
            · simp only [execOp]
              go_simp
            · exact (own_sxK D HSM.out.owk _ W (HD.out.keep (HB9.out.trans (hC.mono HB9.out.size)))).mono fun e w7 ⟨vs, he, hl, hb⟩ => ⟨_, he, hC.trans (hb.mono hC.size), hb, ⟨vs, rfl, hl.lay⟩⟩
          refine AllOps.cons ?_ ?_
          · intro ab W hC hB hdep
            obtain ⟨xg, (qg : xg = .bool true), eg⟩ := hdep 6 32 (by kernel_rfl)
            subst qg
            refine .inl ⟨((wanted_is (g := 6) (t := 32) (b := true) (c := true) rfl rfl (by rw [hB.size]; exact Nat.le_of_ble_eq_true rfl) eg).trans rfl), ?_⟩
            obtain ⟨x0, (q0 : (isOw D) x0 W), e0⟩ := hdep 8 34 (by kernel_rfl)
            skip
            clear hB hdep
            refine goes_call (f := 15) (args := #[x0]) ?_ ?_
            · simp only [execOp]
              go_simp
            · obtain ⟨ua, rfl, hla⟩ := q0
              exact (ident_any D ua W hla HSM.out (HT.out.below (HB9.out.trans (hC.mono HB9.out.size)) (Nat.le_refl _))).mono fun e w7 ⟨he, hb⟩ => ⟨_, he, hC.trans (hb.mono hC.size), hb, by show Value.bool _ = _; rw [HI.out]⟩
          refine AllOps.cons ?_ ?_
          · intro ab W hC hB hdep
            obtain ⟨xg, (qg : xg = .bool true), eg⟩ := hdep 6 32 (by kernel_rfl)
            subst qg
            refine .inl ⟨((wanted_is (g := 6) (t := 32) (b := true) (c := true) rfl rfl (by rw [hB.size]; exact Nat.le_of_ble_eq_true rfl) eg).trans rfl), ?_⟩
            have b0 : ab.tmps.getD 1 undef = .pointer (some ⟨w.heap.size, 0, none⟩) := hB.off 1 (by kernel_rfl)
            obtain ⟨c0, c1, c2, c3, c4, c5, c6, c7⟩ := rowS8 ((hC.block _ HLT.out).trans HN9.out)
            clear hB hdep
            refine goes_value (v := .agg #[.int .i64 kx, .string tx, .bool nx, .slice xo xn xc, .slice yo yn yc, .int .i64 ax, .slice po pn pc, .slice qo qn qc]) ?_ hC rfl
            simp only [execOp, Act.eval, b0]
            go_simp
          refine AllOps.cons ?_ ?_
          · intro ab W hC hB hdep
            obtain ⟨xg, (qg : xg = .bool true), eg⟩ := hdep 6 32 (by kernel_rfl)
            subst qg
            refine .inl ⟨((wanted_is (g := 6) (t := 32) (b := true) (c := true) rfl rfl (by rw [hB.size]; exact Nat.le_of_ble_eq_true rfl) eg).trans rfl), ?_⟩
            obtain ⟨x0, (q0 : (isV (.agg #[.int .i64 kx, .string tx, .bool nx, .slice xo xn xc, .slice yo yn yc, .int .i64 ax, .slice po pn pc, .slice qo qn qc])) x0 W), e0⟩ := hdep 10 36 (by kernel_rfl)
            obtain rfl : x0 = .agg #[.int .i64 kx, .string tx, .bool nx, .slice xo xn xc, .slice yo yn yc, .int .i64 ax, .slice po pn pc, .slice qo qn qc] := q0
            clear hB hdep
            refine goes_call (f := 16) (args := #[.agg #[.int .i64 kx, .string tx, .bool nx, .slice xo xn xc, .slice yo yn yc, .int .i64 ax, .slice po pn pc, .slice qo qn qc]]) ?_ ?_
            · simp only [execOp]
              go_simp
            · exact (rident_any D _ W (HD.out.keep (HB9.out.trans (hC.mono HB9.out.size))) HSM.out).mono fun e w7 ⟨he, hb⟩ => ⟨_, he, hC.trans (hb.mono hC.size), hb, by show Value.bool _ = _; rw [HI.out]⟩
          refine AllOps.cons ?_ ?_
          · intro ab W hC hB hdep
            obtain ⟨xg, (qg : xg = .bool true), eg⟩ := hdep 6 32 (by kernel_rfl)
            subst qg
            refine .inl ⟨((wanted_is (g := 6) (t := 32) (b := true) (c := true) rfl rfl (by rw [hB.size]; exact Nat.le_of_ble_eq_true rfl) eg).trans rfl), ?_⟩
            obtain ⟨x0, (q0 : (isV (.bool i0)) x0 W), e0⟩ := hdep 9 35 (by kernel_rfl)
            obtain rfl : x0 = .bool i0 := q0
            obtain ⟨x1, (q1 : (isV (.bool i0)) x1 W), e1⟩ := hdep 11 37 (by kernel_rfl)
            obtain rfl : x1 = .bool i0 := q1
            clear hB hdep
            refine goes_value (v := .bool true) ?_ hC rfl
            simp only [execOp, Act.eval, e0, e1]
            go_simp
          refine AllOps.cons ?_ ?_
          · intro ab W hC hB hdep
            refine .inl ⟨rfl, ?_⟩
            obtain ⟨x0, (q0 : (isV (.bool true)) x0 W), e0⟩ := hdep 6 32 (by kernel_rfl)
            obtain rfl : x0 = .bool true := q0
            obtain ⟨x1, (q1 : (isV (.bool true)) x1 W), e1⟩ := hdep 12 38 (by kernel_rfl)
            obtain rfl : x1 = .bool true := q1
            clear hB hdep
            refine goes_value (v := .bool true) ?_ hC rfl
            simp only [execOp, Act.eval, e0, e1]
            go_simp
          refine AllOps.cons ?_ ?_
          · intro ab W hC hB hdep
            refine .inl ⟨rfl, ?_⟩
            obtain ⟨x0, (q0 : (isV (.bool true)) x0 W), e0⟩ := hdep 13 39 (by kernel_rfl)
            obtain rfl : x0 = .bool true := q0
            clear hB hdep
            refine goes_value (v := .bool true) ?_ hC rfl
            simp only [execOp, Act.eval, e0]
            go_simp
          refine AllOps.cons ?_ ?_
          · intro ab W hC hB hdep
            obtain ⟨xg, (qg : xg = .bool true), eg⟩ := hdep 14 40 (by kernel_rfl)
            subst qg
            refine .inl ⟨((wanted_is (g := 14) (t := 40) (b := true) (c := true) rfl rfl (by rw [hB.size]; exact Nat.le_of_ble_eq_true rfl) eg).trans rfl), ?_⟩
            have b0 : ab.tmps.getD 4 undef = .int .i64 2 := hB.off 4 (by kernel_rfl)
            clear hB hdep
            refine goes_value (v := .int .i64 2) ?_ hC rfl
            simp only [execOp, Act.eval, b0]
            go_simp
          refine AllOps.cons ?_ ?_
          · intro ab W hC hB hdep
            obtain ⟨xg, (qg : xg = .bool true), eg⟩ := hdep 14 40 (by kernel_rfl)
            subst qg
            refine .inl ⟨((wanted_is (g := 14) (t := 40) (b := true) (c := true) rfl rfl (by rw [hB.size]; exact Nat.le_of_ble_eq_true rfl) eg).trans rfl), ?_⟩
            have b0 : ab.tmps.getD 6 undef = .int .i64 2 := hB.off 6 (by kernel_rfl)
            clear hB hdep
            refine goes_value (v := .int .i64 2) ?_ hC rfl
            simp only [execOp, Act.eval, b0]
            go_simp
          refine AllOps.cons ?_ ?_
          · intro ab W hC hB hdep
            obtain ⟨xg, (qg : xg = .bool true), eg⟩ := hdep 14 40 (by kernel_rfl)
            subst qg
            refine .inl ⟨((wanted_is (g := 14) (t := 40) (b := true) (c := true) rfl rfl (by rw [hB.size]; exact Nat.le_of_ble_eq_true rfl) eg).trans rfl), ?_⟩
            obtain ⟨x0, (q0 : (isV (.int .i64 2)) x0 W), e0⟩ := hdep 15 41 (by kernel_rfl)
            obtain rfl : x0 = .int .i64 2 := q0
            obtain ⟨x1, (q1 : (isV (.int .i64 2)) x1 W), e1⟩ := hdep 16 42 (by kernel_rfl)
            obtain rfl : x1 = .int .i64 2 := q1
            clear hB hdep
            refine goes_value (v := .bool true) ?_ hC rfl
            simp only [execOp, Act.eval, e0, e1]
            go_simp
          refine AllOps.cons ?_ ?_
          · intro ab W hC hB hdep
            refine .inl ⟨rfl, ?_⟩
            obtain ⟨x0, (q0 : (isV (.bool true)) x0 W), e0⟩ := hdep 14 40 (by kernel_rfl)
            obtain rfl : x0 = .bool true := q0
            obtain ⟨x1, (q1 : (isV (.bool true)) x1 W), e1⟩ := hdep 17 43 (by kernel_rfl)
            obtain rfl : x1 = .bool true := q1
            clear hB hdep
            refine goes_value (v := .bool true) ?_ hC rfl
            simp only [execOp, Act.eval, e0, e1]
            go_simp
          refine AllOps.cons ?_ ?_
          · intro ab W hC hB hdep
            refine .inl ⟨rfl, ?_⟩
            obtain ⟨x0, (q0 : (isV (.bool true)) x0 W), e0⟩ := hdep 18 44 (by kernel_rfl)
            obtain rfl : x0 = .bool true := q0
            clear hB hdep
            refine goes_value (v := .bool true) ?_ hC rfl
            simp only [execOp, Act.eval, e0]
            go_simp
          refine AllOps.cons ?_ ?_
          · intro ab W hC hB hdep
            obtain ⟨xg, (qg : xg = .bool true), eg⟩ := hdep 19 45 (by kernel_rfl)
            subst qg
            refine .inl ⟨((wanted_is (g := 19) (t := 45) (b := true) (c := true) rfl rfl (by rw [hB.size]; exact Nat.le_of_ble_eq_true rfl) eg).trans rfl), ?_⟩
            have b0 : ab.tmps.getD 4 undef = .int .i64 2 := hB.off 4 (by kernel_rfl)
            clear hB hdep
            refine goes_value (v := .int .i64 2) ?_ hC rfl
            simp only [execOp, Act.eval, b0]
            go_simp
          refine AllOps.cons ?_ ?_
          · intro ab W hC hB hdep
            obtain ⟨xg, (qg : xg = .bool true), eg⟩ := hdep 19 45 (by kernel_rfl)
            subst qg
            refine .inl ⟨((wanted_is (g := 19) (t := 45) (b := true) (c := true) rfl rfl (by rw [hB.size]; exact Nat.le_of_ble_eq_true rfl) eg).trans rfl), ?_⟩
            obtain ⟨x0, (q0 : (isV (.int .i64 2)) x0 W), e0⟩ := hdep 20 46 (by kernel_rfl)
            obtain rfl : x0 = .int .i64 2 := q0
            clear hB hdep
            refine goes_value (v := .bool true) ?_ hC rfl
            simp only [execOp, Act.eval, e0]
            go_simp
          refine AllOps.cons ?_ ?_
          · intro ab W hC hB hdep
            obtain ⟨xg, (qg : xg = .bool true), eg⟩ := hdep 19 45 (by kernel_rfl)
            subst qg
            refine .inl ⟨((wanted_is (g := 19) (t := 45) (b := true) (c := true) rfl rfl (by rw [hB.size]; exact Nat.le_of_ble_eq_true rfl) eg).trans rfl), ?_⟩
            obtain ⟨x0, (q0 : (isV (.bool true)) x0 W), e0⟩ := hdep 21 47 (by kernel_rfl)
            obtain rfl : x0 = .bool true := q0
            clear hB hdep
            refine goes_value (v := .bool true) ?_ hC rfl
            simp only [execOp, Act.eval, e0]
            go_simp
          refine AllOps.cons ?_ ?_
          · intro ab W hC hB hdep
            obtain ⟨xg, (qg : xg = .bool true), eg⟩ := hdep 22 48 (by kernel_rfl)
            subst qg
            exact .inr ⟨((wanted_is (g := 22) (t := 48) (b := false) (c := true) rfl rfl (by rw [hB.size]; exact Nat.le_of_ble_eq_true rfl) eg).trans rfl), rfl⟩
          refine AllOps.cons ?_ ?_
          · intro ab W hC hB hdep
            obtain ⟨xg, (qg : xg = .bool true), eg⟩ := hdep 22 48 (by kernel_rfl)
            subst qg
            exact .inr ⟨((wanted_is (g := 22) (t := 48) (b := false) (c := true) rfl rfl (by rw [hB.size]; exact Nat.le_of_ble_eq_true rfl) eg).trans rfl), rfl⟩
          refine AllOps.cons ?_ ?_
          · intro ab W hC hB hdep
            obtain ⟨xg, (qg : xg = .bool true), eg⟩ := hdep 22 48 (by kernel_rfl)
            subst qg
            exact .inr ⟨((wanted_is (g := 22) (t := 48) (b := false) (c := true) rfl rfl (by rw [hB.size]; exact Nat.le_of_ble_eq_true rfl) eg).trans rfl), rfl⟩
          refine AllOps.cons ?_ ?_
          · intro ab W hC hB hdep
            obtain ⟨xg, (qg : xg = .bool true), eg⟩ := hdep 19 45 (by kernel_rfl)
            subst qg
            refine .inl ⟨((wanted_is (g := 19) (t := 45) (b := true) (c := true) rfl rfl (by rw [hB.size]; exact Nat.le_of_ble_eq_true rfl) eg).trans rfl), ?_⟩
            obtain ⟨x0, (q0 : (isV (.bool true)) x0 W), e0⟩ := hdep 22 48 (by kernel_rfl)
            obtain rfl : x0 = .bool true := q0
            obtain ⟨x1, (q1 : (isV undef) x1 W), e1⟩ := hdep 25 51 (by kernel_rfl)
            obtain rfl : x1 = undef := q1
            clear hB hdep
            refine goes_value (v := .bool true) ?_ hC rfl
            simp only [execOp, Act.eval, e0, e1]
            go_simp
          refine AllOps.cons ?_ ?_
          · intro ab W hC hB hdep
            refine .inl ⟨rfl, ?_⟩
            obtain ⟨x0, (q0 : (isV (.bool true)) x0 W), e0⟩ := hdep 19 45 (by kernel_rfl)
            obtain rfl : x0 = .bool true := q0
            obtain ⟨x1, (q1 : (isV (.bool true)) x1 W), e1⟩ := hdep 26 52 (by kernel_rfl)
            obtain rfl : x1 = .bool true := q1
            clear hB hdep
            refine goes_value (v := .bool true) ?_ hC rfl
            simp only [execOp, Act.eval, e0, e1]
            go_simp
          refine AllOps.cons ?_ ?_
          · intro ab W hC hB hdep
            refine .inl ⟨rfl, ?_⟩
            obtain ⟨x0, (q0 : (isV (.bool true)) x0 W), e0⟩ := hdep 27 53 (by kernel_rfl)
            obtain rfl : x0 = .bool true := q0
            clear hB hdep
            refine goes_value (v := .bool true) ?_ hC rfl
            simp only [execOp, Act.eval, e0]
            go_simp
          refine AllOps.cons ?_ ?_
          · intro ab W hC hB hdep
            obtain ⟨xg, (qg : xg = .bool true), eg⟩ := hdep 28 54 (by kernel_rfl)
            subst qg
            refine .inl ⟨((wanted_is (g := 28) (t := 54) (b := true) (c := true) rfl rfl (by rw [hB.size]; exact Nat.le_of_ble_eq_true rfl) eg).trans rfl), ?_⟩
            have b0 : ab.tmps.getD 1 undef = .pointer (some ⟨w.heap.size, 0, none⟩) := hB.off 1 (by kernel_rfl)
            obtain ⟨c0, c1, c2, c3, c4, c5, c6, c7⟩ := rowS8 ((hC.block _ HLT.out).trans HN9.out)
            clear hB hdep
            refine goes_value (v := .agg #[.int .i64 kx, .string tx, .bool nx, .slice xo xn xc, .slice yo yn yc, .int .i64 ax, .slice po pn pc, .slice qo qn qc]) ?_ hC rfl
            simp only [execOp, Act.eval, b0]
            go_simp
          refine AllOps.cons ?_ ?_
          · intro ab W hC hB hdep
            obtain ⟨xg, (qg : xg = .bool true), eg⟩ := hdep 28 54 (by kernel_rfl)
            subst qg
            refine .inl ⟨((wanted_is (g := 28) (t := 54) (b := true) (c := true) rfl rfl (by rw [hB.size]; exact Nat.le_of_ble_eq_true rfl) eg).trans rfl), ?_⟩
            obtain ⟨x0, (q0 : (isV (.agg #[.int .i64 kx, .string tx, .bool nx, .slice xo xn xc, .slice yo yn yc, .int .i64 ax, .slice po pn pc, .slice qo qn qc])) x0 W), e0⟩ := hdep 29 55 (by kernel_rfl)
            obtain rfl : x0 = .agg #[.int .i64 kx, .string tx, .bool nx, .slice xo xn xc, .slice yo yn yc, .int .i64 ax, .slice po pn pc, .slice qo qn qc] := q0
            clear hB hdep
            refine goes_call (f := 18) (args := #[.agg #[.int .i64 kx, .string tx, .bool nx, .slice xo xn xc, .slice yo yn yc, .int .i64 ax, .slice po pn pc, .slice qo qn qc]]) ?_ ?_
            · simp only [execOp]
              go_simp
            · exact (compound_any kx tx nx xo xn xc yo yn yc ax po pn pc qo qn qc W).mono fun e w7 ⟨he, hb⟩ => ⟨_, he, hC.trans (hb.mono hC.size), hb, by show Value.bool _ = _; rw [HK.out]⟩
          refine AllOps.cons ?_ ?_
          · intro ab W hC hB hdep
            obtain ⟨xg, (qg : xg = .bool true), eg⟩ := hdep 28 54 (by kernel_rfl)
            subst qg
            refine .inl ⟨((wanted_is (g := 28) (t := 54) (b := true) (c := true) rfl rfl (by rw [hB.size]; exact Nat.le_of_ble_eq_true rfl) eg).trans rfl), ?_⟩
            have b0 : ab.tmps.getD 1 undef = .pointer (some ⟨w.heap.size, 0, none⟩) := hB.off 1 (by kernel_rfl)
            clear hB hdep
            refine goes_value (v := .pointer (some ⟨w.heap.size, 0, none⟩)) ?_ hC rfl
            simp only [execOp, Act.eval, b0]
            go_simp
          refine AllOps.cons ?_ ?_
          · intro ab W hC hB hdep
            obtain ⟨xg, (qg : xg = .bool true), eg⟩ := hdep 28 54 (by kernel_rfl)
            subst qg
            refine .inl ⟨((wanted_is (g := 28) (t := 54) (b := true) (c := true) rfl rfl (by rw [hB.size]; exact Nat.le_of_ble_eq_true rfl) eg).trans rfl), ?_⟩
            obtain ⟨x0, (q0 : (isV (.pointer (some ⟨w.heap.size, 0, none⟩))) x0 W), e0⟩ := hdep 31 57 (by kernel_rfl)
            obtain rfl : x0 = .pointer (some ⟨w.heap.size, 0, none⟩) := q0
            obtain ⟨c0, c1, c2, c3, c4, c5, c6, c7⟩ := rowS8 ((hC.block _ HLT.out).trans HN9.out)
            clear hB hdep
            refine goes_value (v := .int .i64 kx) ?_ hC rfl
            simp only [execOp, Act.eval, e0]
            go_simp
          refine AllOps.cons ?_ ?_
          · intro ab W hC hB hdep
            obtain ⟨xg, (qg : xg = .bool true), eg⟩ := hdep 28 54 (by kernel_rfl)
            subst qg
            refine .inl ⟨((wanted_is (g := 28) (t := 54) (b := true) (c := true) rfl rfl (by rw [hB.size]; exact Nat.le_of_ble_eq_true rfl) eg).trans rfl), ?_⟩
            obtain ⟨x0, (q0 : (isV (.int .i64 kx)) x0 W), e0⟩ := hdep 32 58 (by kernel_rfl)
            obtain rfl : x0 = .int .i64 kx := q0
            clear hB hdep
            refine goes_value (v := .bool false) ?_ hC rfl
            simp only [execOp, Act.eval, e0]
            go_simp
          refine AllOps.cons ?_ ?_
          · intro ab W hC hB hdep
            obtain ⟨xg, (qg : xg = .bool true), eg⟩ := hdep 28 54 (by kernel_rfl)
            subst qg
            refine .inl ⟨((wanted_is (g := 28) (t := 54) (b := true) (c := true) rfl rfl (by rw [hB.size]; exact Nat.le_of_ble_eq_true rfl) eg).trans rfl), ?_⟩
            obtain ⟨x0, (q0 : (isV (.bool false)) x0 W), e0⟩ := hdep 33 59 (by kernel_rfl)
            obtain rfl : x0 = .bool false := q0
            clear hB hdep
            refine goes_value (v := .bool false) ?_ hC rfl
            simp only [execOp, Act.eval, e0]
            go_simp
          refine AllOps.cons ?_ ?_
          · intro ab W hC hB hdep
            obtain ⟨xg, (qg : xg = .bool false), eg⟩ := hdep 34 60 (by kernel_rfl)
            subst qg
            exact .inr ⟨((wanted_is (g := 34) (t := 60) (b := true) (c := false) rfl rfl (by rw [hB.size]; exact Nat.le_of_ble_eq_true rfl) eg).trans rfl), rfl⟩
          refine AllOps.cons ?_ ?_
          · intro ab W hC hB hdep
            obtain ⟨xg, (qg : xg = .bool false), eg⟩ := hdep 34 60 (by kernel_rfl)
            subst qg
            exact .inr ⟨((wanted_is (g := 34) (t := 60) (b := true) (c := false) rfl rfl (by rw [hB.size]; exact Nat.le_of_ble_eq_true rfl) eg).trans rfl), rfl⟩
          refine AllOps.cons ?_ ?_
          · intro ab W hC hB hdep
            obtain ⟨xg, (qg : xg = .bool false), eg⟩ := hdep 34 60 (by kernel_rfl)
            subst qg
            exact .inr ⟨((wanted_is (g := 34) (t := 60) (b := true) (c := false) rfl rfl (by rw [hB.size]; exact Nat.le_of_ble_eq_true rfl) eg).trans rfl), rfl⟩
          refine AllOps.cons ?_ ?_
          · intro ab W hC hB hdep
            obtain ⟨xg, (qg : xg = .bool true), eg⟩ := hdep 28 54 (by kernel_rfl)
            subst qg
            refine .inl ⟨((wanted_is (g := 28) (t := 54) (b := true) (c := true) rfl rfl (by rw [hB.size]; exact Nat.le_of_ble_eq_true rfl) eg).trans rfl), ?_⟩
            obtain ⟨x0, (q0 : (isV (.bool false)) x0 W), e0⟩ := hdep 34 60 (by kernel_rfl)
            obtain rfl : x0 = .bool false := q0
            obtain ⟨x1, (q1 : (isV undef) x1 W), e1⟩ := hdep 37 63 (by kernel_rfl)
            obtain rfl : x1 = undef := q1
            clear hB hdep
            refine goes_value (v := .bool false) ?_ hC rfl
            simp only [execOp, Act.eval, e0, e1]
            go_simp
          refine AllOps.cons ?_ ?_
          · intro ab W hC hB hdep
            obtain ⟨xg, (qg : xg = .bool true), eg⟩ := hdep 28 54 (by kernel_rfl)
            subst qg
            refine .inl ⟨((wanted_is (g := 28) (t := 54) (b := true) (c := true) rfl rfl (by rw [hB.size]; exact Nat.le_of_ble_eq_true rfl) eg).trans rfl), ?_⟩
            obtain ⟨x0, (q0 : (isV (.bool false)) x0 W), e0⟩ := hdep 30 56 (by kernel_rfl)
            obtain rfl : x0 = .bool false := q0
            obtain ⟨x1, (q1 : (isV (.bool false)) x1 W), e1⟩ := hdep 38 64 (by kernel_rfl)
            obtain rfl : x1 = .bool false := q1
            clear hB hdep
            refine goes_value (v := .bool true) ?_ hC rfl
            simp only [execOp, Act.eval, e0, e1]
            go_simp
          refine AllOps.cons ?_ ?_
          · intro ab W hC hB hdep
            refine .inl ⟨rfl, ?_⟩
            obtain ⟨x0, (q0 : (isV (.bool true)) x0 W), e0⟩ := hdep 28 54 (by kernel_rfl)
            obtain rfl : x0 = .bool true := q0
            obtain ⟨x1, (q1 : (isV (.bool true)) x1 W), e1⟩ := hdep 39 65 (by kernel_rfl)
            obtain rfl : x1 = .bool true := q1
            clear hB hdep
            refine goes_value (v := .bool true) ?_ hC rfl
            simp only [execOp, Act.eval, e0, e1]
            go_simp
          refine AllOps.cons ?_ ?_
          · intro ab W hC hB hdep
            refine .inl ⟨rfl, ?_⟩
            obtain ⟨x0, (q0 : (isV (.bool true)) x0 W), e0⟩ := hdep 40 66 (by kernel_rfl)
            obtain rfl : x0 = .bool true := q0
            clear hB hdep
            refine goes_value (v := .bool true) ?_ hC rfl
            simp only [execOp, Act.eval, e0]
            go_simp
          exact trivial
        · intro aa wC hC hB hall
          obtain ⟨v0, (k0 : v0 = .agg #[.int .i64 kx, .string tx, .bool nx, .slice xo xn xc, .slice yo yn yc, .int .i64 ax, .slice po pn pc, .slice qo qn qc]), e0⟩ := hall 0 _ rfl
          obtain ⟨v1, (k1 : (isOw D) v1 wC), e1⟩ := hall 1 _ rfl
          obtain ⟨v2, (k2 : v2 = .bool false), e2⟩ := hall 2 _ rfl
          obtain ⟨v3, (k3 : v3 = .agg #[.int .i64 kx, .string tx, .bool nx, .slice xo xn xc, .slice yo yn yc, .int .i64 ax, .slice po pn pc, .slice qo qn qc]), e3⟩ := hall 3 _ rfl
          obtain ⟨v4, (k4 : v4 = .bool false), e4⟩ := hall 4 _ rfl
          obtain ⟨v5, (k5 : v5 = .bool true), e5⟩ := hall 5 _ rfl
          obtain ⟨v6, (k6 : v6 = .bool true), e6⟩ := hall 6 _ rfl
          obtain ⟨v7, (k7 : v7 = .agg #[.int .i64 kx, .string tx, .bool nx, .slice xo xn xc, .slice yo yn yc, .int .i64 ax, .slice po pn pc, .slice qo qn qc]), e7⟩ := hall 7 _ rfl
          obtain ⟨v8, (k8 : (isOw D) v8 wC), e8⟩ := hall 8 _ rfl
          obtain ⟨v9, (k9 : v9 = .bool i0), e9⟩ := hall 9 _ rfl
          obtain ⟨v10, (k10 : v10 = .agg #[.int .i64 kx, .string tx, .bool nx, .slice xo xn xc, .slice yo yn yc, .int .i64 ax, .slice po pn pc, .slice qo qn qc]), e10⟩ := hall 10 _ rfl
          obtain ⟨v11, (k11 : v11 = .bool i0), e11⟩ := hall 11 _ rfl
          obtain ⟨v12, (k12 : v12 = .bool true), e12⟩ := hall 12 _ rfl
          obtain ⟨v13, (k13 : v13 = .bool true), e13⟩ := hall 13 _ rfl
          obtain ⟨v14, (k14 : v14 = .bool true), e14⟩ := hall 14 _ rfl
          obtain ⟨v15, (k15 : v15 = .int .i64 2), e15⟩ := hall 15 _ rfl
          obtain ⟨v16, (k16 : v16 = .int .i64 2), e16⟩ := hall 16 _ rfl
          obtain ⟨v17, (k17 : v17 = .bool true), e17⟩ := hall 17 _ rfl
          obtain ⟨v18, (k18 : v18 = .bool true), e18⟩ := hall 18 _ rfl
          obtain ⟨v19, (k19 : v19 = .bool true), e19⟩ := hall 19 _ rfl
          obtain ⟨v20, (k20 : v20 = .int .i64 2), e20⟩ := hall 20 _ rfl
          obtain ⟨v21, (k21 : v21 = .bool true), e21⟩ := hall 21 _ rfl
          obtain ⟨v22, (k22 : v22 = .bool true), e22⟩ := hall 22 _ rfl
          obtain ⟨v23, (k23 : v23 = undef), e23⟩ := hall 23 _ rfl
          obtain ⟨v24, (k24 : v24 = undef), e24⟩ := hall 24 _ rfl
          obtain ⟨v25, (k25 : v25 = undef), e25⟩ := hall 25 _ rfl
          obtain ⟨v26, (k26 : v26 = .bool true), e26⟩ := hall 26 _ rfl
          obtain ⟨v27, (k27 : v27 = .bool true), e27⟩ := hall 27 _ rfl
          obtain ⟨v28, (k28 : v28 = .bool true), e28⟩ := hall 28 _ rfl
          obtain ⟨v29, (k29 : v29 = .agg #[.int .i64 kx, .string tx, .bool nx, .slice xo xn xc, .slice yo yn yc, .int .i64 ax, .slice po pn pc, .slice qo qn qc]), e29⟩ := hall 29 _ rfl
          obtain ⟨v30, (k30 : v30 = .bool false), e30⟩ := hall 30 _ rfl
          obtain ⟨v31, (k31 : v31 = .pointer (some ⟨w.heap.size, 0, none⟩)), e31⟩ := hall 31 _ rfl
          obtain ⟨v32, (k32 : v32 = .int .i64 kx), e32⟩ := hall 32 _ rfl
          obtain ⟨v33, (k33 : v33 = .bool false), e33⟩ := hall 33 _ rfl
          obtain ⟨v34, (k34 : v34 = .bool false), e34⟩ := hall 34 _ rfl
          obtain ⟨v35, (k35 : v35 = undef), e35⟩ := hall 35 _ rfl
          obtain ⟨v36, (k36 : v36 = undef), e36⟩ := hall 36 _ rfl
          obtain ⟨v37, (k37 : v37 = undef), e37⟩ := hall 37 _ rfl
          obtain ⟨v38, (k38 : v38 = .bool false), e38⟩ := hall 38 _ rfl
          obtain ⟨v39, (k39 : v39 = .bool true), e39⟩ := hall 39 _ rfl
          obtain ⟨v40, (k40 : v40 = .bool true), e40⟩ := hall 40 _ rfl
          obtain ⟨v41, (k41 : v41 = .bool true), e41⟩ := hall 41 _ rfl
          subst k0 k2 k3 k4 k5 k6 k7 k9 k10 k11 k12 k13 k14 k15 k16 k17 k18 k19 k20 k21 k22 k23 k24 k25 k26 k27 k28 k29 k30 k31 k32 k33 k34 k35 k36 k37 k38 k39 k40 k41
          have hv : ∀ pq ∈ [((26 : Nat), (.agg #[.int .i64 kx, .string tx, .bool nx, .slice xo xn xc, .slice yo yn yc, .int .i64 ax, .slice po pn pc, .slice qo qn qc] : Value)), ((27 : Nat), (v1 : Value)), ((28 : Nat), (.bool false : Value)), ((29 : Nat), (.agg #[.int .i64 kx, .string tx, .bool nx, .slice xo xn xc, .slice yo yn yc, .int .i64 ax, .slice po pn pc, .slice qo qn qc] : Value)), ((30 : Nat), (.bool false : Value)), ((31 : Nat), (.bool true : Value)), ((32 : Nat), (.bool true : Value)), ((33 : Nat), (.agg #[.int .i64 kx, .string tx, .bool nx, .slice xo xn xc, .slice yo yn yc, .int .i64 ax, .slice po pn pc, .slice qo qn qc] : Value)), ((34 : Nat), (v8 : Value)), ((35 : Nat), (.bool i0 : Value)), ((36 : Nat), (.agg #[.int .i64 kx, .string tx, .bool nx, .slice xo xn xc, .slice yo yn yc, .int .i64 ax, .slice po pn pc, .slice qo qn qc] : Value)), ((37 : Nat), (.bool i0 : Value)), ((38 : Nat), (.bool true : Value)), ((39 : Nat), (.bool true : Value)), ((40 : Nat), (.bool true : Value)), ((41 : Nat), (.int .i64 2 : Value)), ((42 : Nat), (.int .i64 2 : Value)), ((43 : Nat), (.bool true : Value)), ((44 : Nat), (.bool true : Value)), ((45 : Nat), (.bool true : Value)), ((46 : Nat), (.int .i64 2 : Value)), ((47 : Nat), (.bool true : Value)), ((48 : Nat), (.bool true : Value)), ((49 : Nat), (undef : Value)), ((50 : Nat), (undef : Value)), ((51 : Nat), (undef : Value)), ((52 : Nat), (.bool true : Value)), ((53 : Nat), (.bool true : Value)), ((54 : Nat), (.bool true : Value)), ((55 : Nat), (.agg #[.int .i64 kx, .string tx, .bool nx, .slice xo xn xc, .slice yo yn yc, .int .i64 ax, .slice po pn pc, .slice qo qn qc] : Value)), ((56 : Nat), (.bool false : Value)), ((57 : Nat), (.pointer (some ⟨w.heap.size, 0, none⟩) : Value)), ((58 : Nat), (.int .i64 kx : Value)), ((59 : Nat), (.bool false : Value)), ((60 : Nat), (.bool false : Value)), ((61 : Nat), (undef : Value)), ((62 : Nat), (undef : Value)), ((63 : Nat), (undef : Value)), ((64 : Nat), (.bool false : Value)), ((65 : Nat), (.bool true : Value)), ((66 : Nat), (.bool true : Value)), ((2 : Nat), (.bool true : Value))], aa.tmps.getD pq.1 undef = pq.2 := by
            intro pq hp
            simp only [List.mem_cons, List.not_mem_nil, or_false] at hp
            rcases hp with rfl | rfl | rfl | rfl | rfl | rfl | rfl | rfl | rfl | rfl | rfl | rfl | rfl | rfl | rfl | rfl | rfl | rfl | rfl | rfl | rfl | rfl | rfl | rfl | rfl | rfl | rfl | rfl | rfl | rfl | rfl | rfl | rfl | rfl | rfl | rfl | rfl | rfl | rfl | rfl | rfl | rfl
            · exact e0 _ rfl
            · exact e1 _ rfl
            · exact e2 _ rfl
            · exact e3 _ rfl
            · exact e4 _ rfl
            · exact e5 _ rfl
            · exact e6 _ rfl
            · exact e7 _ rfl
            · exact e8 _ rfl
            · exact e9 _ rfl
            · exact e10 _ rfl
            · exact e11 _ rfl
            · exact e12 _ rfl
            · exact e13 _ rfl
            · exact e14 _ rfl
            · exact e15 _ rfl
            · exact e16 _ rfl
            · exact e17 _ rfl
            · exact e18 _ rfl
            · exact e19 _ rfl
            · exact e20 _ rfl
            · exact e21 _ rfl
            · exact e22 _ rfl
            · exact e23 _ rfl
            · exact e24 _ rfl
            · exact e25 _ rfl
            · exact e26 _ rfl
            · exact e27 _ rfl
            · exact e28 _ rfl
            · exact e29 _ rfl
            · exact e30 _ rfl
            · exact e31 _ rfl
            · exact e32 _ rfl
            · exact e33 _ rfl
            · exact e34 _ rfl
            · exact e35 _ rfl
            · exact e36 _ rfl
            · exact e37 _ rfl
            · exact e38 _ rfl
            · exact e39 _ rfl
            · exact e40 _ rfl
            · exact e41 _ rfl
          have hact := act_fold _ hB hv (by kernel_rfl)
          subst hact
          clear hv hall hB e0 e1 e2 e3 e4 e5 e6 e7 e8 e9 e10 e11 e12 e13 e14 e15 e16 e17 e18 e19 e20 e21 e22 e23 e24 e25 e26 e27 e28 e29 e30 e31 e32 e33 e34 e35 e36 e37 e38 e39 e40 e41
          refine (‹∀ (a : Act) (w : World), Code.wp Tryz.prog _ _ a w → _›) _ wC ?_
          simp only [List.foldl, List.setIfInBounds_toArray, List.set_cons_succ, List.set_cons_zero]
          have HC := Lib.hid (HB9.out.trans (hC.mono HB9.out.size))
          clear hC
          go_wp2_with fail
          go_ret
          exact ⟨rfl, HC.out⟩

end Go.Proofs.YtckkmecnddapnaaGreatDoor
