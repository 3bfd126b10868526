/- lift's Up and Num without a store. -/
import Derived.Test.YtocladhggcaokaaGreatDoorLfNum
import Derived.Test.YtocladhggcaokaaGreatDoorAdd
import Derived.Test.YtocladhggcaokaaGreatDoorOrdG
import Derived.Test.YtocladhggcaokaaGreatDoorOrdL
namespace Go.Proofs.YtocladhggcaokaaGreatDoor
open Go.RowKit

theorem row6n {W : World} {g : Nat} {a0 a1 a2 a3 a4 a5 : Value} {e : TypeId} (h : W.heap[g]? = some (.cells #[a0, a1, a2, a3, a4, a5] e (0, 0))) : (W.cell? ⟨g, 0, none⟩ = some a0 ∧ W.cell? ⟨g, 1, none⟩ = some a1 ∧ W.cell? ⟨g, 2, none⟩ = some a2 ∧ W.cell? ⟨g, 3, none⟩ = some a3 ∧ W.cell? ⟨g, 4, none⟩ = some a4 ∧ W.cell? ⟨g, 5, none⟩ = some a5) ∧ (W.frozen? ⟨g, 0, none⟩ = false ∧ W.frozen? ⟨g, 1, none⟩ = false ∧ W.frozen? ⟨g, 2, none⟩ = false ∧ W.frozen? ⟨g, 3, none⟩ = false ∧ W.frozen? ⟨g, 4, none⟩ = false ∧ W.frozen? ⟨g, 5, none⟩ = false) :=
  ⟨⟨cell_heap h 0, cell_heap h 1, cell_heap h 2, cell_heap h 3, cell_heap h 4, cell_heap h 5⟩, ⟨frozen_heap h 0, frozen_heap h 1, frozen_heap h 2, frozen_heap h 3, frozen_heap h 4, frozen_heap h 5⟩⟩
theorem put6n {W : World} {g : Nat} {a0 a1 a2 a3 a4 a5 : Value} {e : TypeId} (h : W.heap[g]? = some (.cells #[a0, a1, a2, a3, a4, a5] e (0, 0))) (b0 b1 b2 b3 b4 b5 : Value) : ((((((W.setCell ⟨g, 0, none⟩ b0).setCell ⟨g, 1, none⟩ b1).setCell ⟨g, 2, none⟩ b2).setCell ⟨g, 3, none⟩ b3).setCell ⟨g, 4, none⟩ b4).setCell ⟨g, 5, none⟩ b5).heap[g]? = some (.cells #[b0, b1, b2, b3, b4, b5] e (0, 0)) :=
  (rowSet (rowSet (rowSet (rowSet (rowSet (rowSet h 0 b0) 1 b1) 2 b2) 3 b3) 4 b4) 5 b5).trans (by simp)
theorem newsT {w : World} {a b c : Obj} : (((w.alloc a).alloc b).alloc c).heap[w.heap.size]? = some a ∧ (((w.alloc a).alloc b).alloc c).heap[w.heap.size + 1]? = some b ∧ (((w.alloc a).alloc b).alloc c).heap[w.heap.size + 2]? = some c := by
  refine ⟨?_, ?_, ?_⟩
  · rw [Below.heap_alloc _ _ _ (by simp; omega), Below.heap_alloc _ _ _ (by simp)]; exact heap_alloc_new w _
  · rw [Below.heap_alloc _ _ _ (by simp)]
    have := heap_alloc_new (w.alloc a) b
    simpa using this
  · have := heap_alloc_new ((w.alloc a).alloc b) c
    simpa using this
set_option maxRecDepth 100000 in
/-- Up, without a store. -/
theorem lup_nil (v : Int × Int) (w : World) : Calls Tryz.prog 13 #[.pointer none, .agg #[.int .i64 v.1, .int .i64 v.2]] w fun e w' => e = .returned (.tuple #[.agg #[.int .i64 0, .string ⟨#[]⟩, .bool false, .slice none 0 0, .slice none 0 0, .int .i64 0], .int .i64 2]) ∧ Below w.heap.size w w' := by
  obtain ⟨t, n⟩ := v
  simp only
  have HB1 := Lib.hid (below2 w (.cells #[.int .i64 t, .int .i64 n] 29) (.cells #[.int .i64 0, .string ⟨#[]⟩, .bool false, .slice none 0 0, .slice none 0 0, .int .i64 0] 27))
  have HN := Lib.hid (@newsA w (.cells #[.int .i64 t, .int .i64 n] 29) (.cells #[.int .i64 0, .string ⟨#[]⟩, .bool false, .slice none 0 0, .slice none 0 0, .int .i64 0] 27))
  go_enter Tryz.func13, Tryz.ntmps13
  go_upto_region 1 with fail
  generalize (w.alloc (.cells #[.int .i64 t, .int .i64 n] 29)).alloc (.cells #[.int .i64 0, .string ⟨#[]⟩, .bool false, .slice none 0 0, .slice none 0 0, .int .i64 0] 27) = w1 at *
  obtain ⟨p0, p1, _⟩ := row2 HN.out.1
  go_wp2_with fail
  refine (nsound_al8 (t, n) w1).mono ?_
  rintro e w2 ⟨rfl, hb2⟩
  have HB2 := Lib.hid (HB1.out.trans (hb2.mono HB1.out.size))
  have HN2 := Lib.hid ((hb2.block _ (Array.getElem?_eq_some_iff.1 HN.out.2).1).trans HN.out.2)
  clear hb2 p0 p1
  obtain ⟨⟨q0, q1, q2, q3, q4, q5⟩, z0, z1, z2, z3, z4, z5⟩ := row6n HN2.out
  go_wp2_with fail
  have hx := put6n HN2.out (.int .i64 0) (.string ⟨#[]⟩) (.bool false) (.slice none 0 0) (.slice none 0 0) (.int .i64 0)
  clear q0 q1 q2 q3 q4 q5 z0 z1 z2 z3 z4 z5
  obtain ⟨⟨r0, r1, r2, r3, r4, r5⟩, _⟩ := row6n hx
  refine bodyPost_ret (v := .tuple #[.agg #[.int .i64 0, .string ⟨#[]⟩, .bool false, .slice none 0 0, .slice none 0 0, .int .i64 0], .int .i64 2]) (by simp [results, Tryz.results13, go_sem, r0, r1, r2, r3, r4, r5]) rfl ⟨rfl, (((((HB2.out.setCell (by simp) _).setCell (by simp) _).setCell (by simp) _).setCell (by simp) _).setCell (by simp) _).setCell (by simp) _⟩
set_option maxRecDepth 100000 in
set_option maxHeartbeats 2000000 in
/-- A teller's number, without a store. -/
theorem tnumber_nil (v : Int × Int) (tb : Nat) (w : World) (ht : w.heap[tb]? = some (.cells #[.pointer none, .int .i64 0] 78 (0, 0))) (h1 : -9223372036854775808 ≤ v.2) (h2 : v.2 ≤ 9223372036854775807) :
    Calls Tryz.prog 55 #[.pointer (some ⟨tb, 0, none⟩), .agg #[.int .i64 v.1, .int .i64 v.2]] w fun e w' => ∃ ng ao n c ok, e = .returned (.tuple #[.agg #[.bool ng, .slice ao n c], .bool ok]) ∧ Below w.heap.size w w' := by
  obtain ⟨t, n⟩ := v
  simp only at h1 h2 ⊢
  have HB1 := Lib.hid (below2 w (.cells #[.int .i64 t, .int .i64 n] 29) (.cells #[.bool false, .slice none 0 0] 24))
  have HN := Lib.hid (@newsA w (.cells #[.int .i64 t, .int .i64 n] 29) (.cells #[.bool false, .slice none 0 0] 24))
  have HT := Lib.hid ht
  have HR := Lib.hid (And.intro h1 h2)
  clear ht h1 h2
  by_cases h4 : t = 4
  · subst h4
    go_enter Tryz.func55, Tryz.ntmps55
    go_upto_region 1 with fail
    generalize (w.alloc (.cells #[.int .i64 4, .int .i64 n] 29)).alloc (.cells #[.bool false, .slice none 0 0] 24) = w1 at *
    obtain ⟨p0, p1, _⟩ := row2 HN.out.1
    go_wp2_with fail
    refine (of_any n w1 HR.out.1 HR.out.2).mono ?_
    rintro e w2 ⟨x, ng, rs, rfl, ⟨sv, rfl, hsl⟩, hb2, hsnd, _⟩
    obtain ⟨_, ao, cap, rfl, _, _⟩ := id hsl
    have HB2 := Lib.hid (HB1.out.trans (hb2.mono HB1.out.size))
    have HN2 := Lib.hid ((hb2.block _ (Array.getElem?_eq_some_iff.1 HN.out.2).1).trans HN.out.2)
    have HSL := Lib.hid hsl
    have HLB : Hid (∀ i, limb rs i < 4294967296) := Lib.hid hsnd.2.1.wide
    clear hb2 p0 p1 hsl hsnd HN
    have hb3 := below1 w2 (.cells #[.bool ng, .slice ao rs.length cap] 24)
    have HB3 := Lib.hid (HB2.out.trans (hb3.mono HB2.out.size))
    have HN3 := Lib.hid ((hb3.block _ (Array.getElem?_eq_some_iff.1 HN2.out).1).trans HN2.out)
    have HM3 := Lib.hid (box1 w2 #[.bool ng, .slice ao rs.length cap] 24)
    have HS3 := Lib.hid (HSL.out.below hb3)
    clear hb3 HN2 HSL
    go_upto_region 3 with fail
    generalize w2.alloc (.cells #[.bool ng, .slice ao rs.length cap] 24) = w3 at *
    generalize w2.heap.size = xb at *
    obtain ⟨p0, p1, _⟩ := row2 HM3.out
    go_wp2_with fail
    refine (lsmall_any ng _ rs w3 HS3.out HLB.out).mono ?_
    rintro e w4 ⟨k, ok, rfl, hb4, _⟩
    have HB4 := Lib.hid (HB3.out.trans (hb4.mono HB3.out.size))
    have HN4 := Lib.hid ((hb4.block _ (Array.getElem?_eq_some_iff.1 HN3.out).1).trans HN3.out)
    have HM4 := Lib.hid ((hb4.block _ (Array.getElem?_eq_some_iff.1 HM3.out).1).trans HM3.out)
    clear hb4 p0 p1
    generalize (ok && decide (-1000000000000000000 < k) && decide (k < 1000000000000000000)) = q at *
    obtain ⟨p0, p1, _⟩ := row2 HM4.out
    obtain ⟨r0, r1, z0, z1⟩ := row2 HN4.out
    go_wp2_with fail
    have hx := put2n HN4.out (.bool ng) (.slice ao rs.length cap)
    clear r0 r1 z0 z1 p0 p1
    obtain ⟨r0, r1, _⟩ := row2 hx
    refine bodyPost_ret (v := .tuple #[.agg #[.bool ng, .slice ao rs.length cap], .bool q]) (by simp [results, Tryz.results55, go_sem, r0, r1]) rfl ⟨_, _, _, _, _, rfl, (HB4.out.setCell (by simp) _).setCell (by simp) _⟩
  · have h4b : (t == 4) = false := by rw [beq_eq_false_iff_ne]; exact h4
    go_enter Tryz.func55, Tryz.ntmps55
    go_upto_region 1 with fail
    have htl := (Array.getElem?_eq_some_iff.1 HT.out).1
    have HT1 := Lib.hid (((below2 w (.cells #[.int .i64 t, .int .i64 n] 29) (.cells #[.bool false, .slice none 0 0] 24)).block tb htl).trans HT.out)
    generalize (w.alloc (.cells #[.int .i64 t, .int .i64 n] 29)).alloc (.cells #[.bool false, .slice none 0 0] 24) = w1 at *
    obtain ⟨p0, p1, _⟩ := row2 HN.out.1
    go_upto_region 5 with fail
    clear p0 p1
    have HNB : Hid (∀ W, Below w1.heap.size w1 W → W.cell? ⟨w.heap.size, 0, none⟩ = some (.int .i64 t) ∧ W.cell? ⟨w.heap.size, 1, none⟩ = some (.int .i64 n)) := Lib.hid fun W hW => by
      have h1 := (hW.block w.heap.size (Array.getElem?_eq_some_iff.1 HN.out.1).1).trans HN.out.1
      exact ⟨cell_heap h1 0, cell_heap h1 1⟩
    have HTB : Hid (∀ W, Below w1.heap.size w1 W → W.cell? ⟨tb, 0, none⟩ = some (.pointer none)) := Lib.hid fun W hW => by
      have h1 := (hW.block tb (Array.getElem?_eq_some_iff.1 HT1.out).1).trans HT1.out
      exact cell_heap h1 0
    refine wp_region_slotsG (psi [isV (.pointer (some ⟨tb, 0, none⟩)), isV (.pointer (some ⟨tb, 0, none⟩)), isV (.pointer (some ⟨tb, 0, none⟩)), isV (.pointer none), isV (.agg #[.int .i64 t, .int .i64 n]), isV (.int .i64 0), isV (.bool true), isV (.bool true), isV undef, isV undef, isV undef, isV undef, isV undef, isV undef, isV undef, isV (.bool true)]) (fun W => Below w1.heap.size w1 W) (by kernel_rfl) (Below.refl _ _).drew (psi_mono ?_) (by kernel_rfl) (by kernel_rfl) ?_ ?_
    · intro pq hp
      simp only [List.mem_cons, List.not_mem_nil, or_false] at hp
      (repeat' rcases hp with rfl | hp) <;> first | exact isV_stays _ | (subst hp; exact isV_stays _)
    · refine AllOps.cons ?_ ?_
      · intro ab W hC hB hdep
        refine .inl ⟨rfl, ?_⟩
        have b0 : ab.tmps.getD 0 undef = .pointer (some ⟨tb, 0, none⟩) := hB.off 0 (by kernel_rfl)
        clear hB hdep
        refine goes_value (v := .pointer (some ⟨tb, 0, none⟩)) ?_ hC rfl
        simp only [execOp, Act.eval, b0]
        go_simp
      refine AllOps.cons ?_ ?_
      · intro ab W hC hB hdep
        refine .inl ⟨rfl, ?_⟩
        obtain ⟨x0, (q0 : (isV (.pointer (some ⟨tb, 0, none⟩))) x0 W), e0⟩ := hdep 0 26 (by kernel_rfl)
        obtain rfl : x0 = .pointer (some ⟨tb, 0, none⟩) := q0
        clear hB hdep
        refine goes_value (v := .pointer (some ⟨tb, 0, none⟩)) ?_ hC rfl
        simp only [execOp, Act.eval, e0]
        go_simp
      refine AllOps.cons ?_ ?_
      · intro ab W hC hB hdep
        refine .inl ⟨rfl, ?_⟩
        obtain ⟨x0, (q0 : (isV (.pointer (some ⟨tb, 0, none⟩))) x0 W), e0⟩ := hdep 1 27 (by kernel_rfl)
        obtain rfl : x0 = .pointer (some ⟨tb, 0, none⟩) := q0
        clear hB hdep
        refine goes_value (v := .pointer (some ⟨tb, 0, none⟩)) ?_ hC rfl
        simp only [execOp, Act.eval, e0]
        go_simp
      refine AllOps.cons ?_ ?_
      · intro ab W hC hB hdep
        refine .inl ⟨rfl, ?_⟩
        obtain ⟨x0, (q0 : (isV (.pointer (some ⟨tb, 0, none⟩))) x0 W), e0⟩ := hdep 2 28 (by kernel_rfl)
        obtain rfl : x0 = .pointer (some ⟨tb, 0, none⟩) := q0
        have y0 := HTB.out W hC
        clear hB hdep
        refine goes_value (v := .pointer none) ?_ hC rfl
        simp only [execOp, Act.eval, e0]
        go_simp
      refine AllOps.cons ?_ ?_
      · intro ab W hC hB hdep
        refine .inl ⟨rfl, ?_⟩
        have b0 : ab.tmps.getD 3 undef = .pointer (some ⟨w.heap.size, 0, none⟩) := hB.off 3 (by kernel_rfl)
        obtain ⟨y0, y1⟩ := HNB.out W hC
        clear hB hdep
        refine goes_value (v := .agg #[.int .i64 t, .int .i64 n]) ?_ hC rfl
        simp only [execOp, Act.eval, b0]
        go_simp
      refine AllOps.cons ?_ ?_
      · intro ab W hC hB hdep
        refine .inl ⟨rfl, ?_⟩
        obtain ⟨x0, (q0 : (isV (.pointer none)) x0 W), e0⟩ := hdep 3 29 (by kernel_rfl)
        obtain rfl : x0 = .pointer none := q0
        obtain ⟨x1, (q1 : (isV (.agg #[.int .i64 t, .int .i64 n])) x1 W), e1⟩ := hdep 4 30 (by kernel_rfl)
        obtain rfl : x1 = .agg #[.int .i64 t, .int .i64 n] := q1
        clear hB hdep
        refine goes_call (f := 103) (args := #[.pointer none, .agg #[.int .i64 t, .int .i64 n]]) ?_ ?_
        · simp only [execOp]
          go_simp
        · exact (nkind_all (t, n) W).mono fun e w7 ⟨he, hb⟩ => ⟨_, he, hC.trans (hb.mono hC.size), hb, rfl⟩
      refine AllOps.cons ?_ ?_
      · intro ab W hC hB hdep
        refine .inl ⟨rfl, ?_⟩
        obtain ⟨x0, (q0 : (isV (.int .i64 0)) x0 W), e0⟩ := hdep 5 31 (by kernel_rfl)
        obtain rfl : x0 = .int .i64 0 := q0
        clear hB hdep
        refine goes_value (v := .bool true) ?_ hC rfl
        simp only [execOp, Act.eval, e0]
        go_simp
      refine AllOps.cons ?_ ?_
      · intro ab W hC hB hdep
        refine .inl ⟨rfl, ?_⟩
        obtain ⟨x0, (q0 : (isV (.bool true)) x0 W), e0⟩ := hdep 6 32 (by kernel_rfl)
        obtain rfl : x0 = .bool true := q0
        clear hB hdep
        refine goes_value (v := .bool true) ?_ hC rfl
        simp only [execOp, Act.eval, e0]
        go_simp
      refine AllOps.cons ?_ ?_
      · intro ab W hC hB hdep
        obtain ⟨xg, (qg : xg = .bool true), eg⟩ := hdep 7 33 (by kernel_rfl)
        subst qg
        exact .inr ⟨((wanted_is (g := 7) (t := 33) (b := false) (c := true) rfl rfl (by rw [hB.size]; exact Nat.le_of_ble_eq_true rfl) eg).trans rfl), rfl⟩
      refine AllOps.cons ?_ ?_
      · intro ab W hC hB hdep
        obtain ⟨xg, (qg : xg = .bool true), eg⟩ := hdep 7 33 (by kernel_rfl)
        subst qg
        exact .inr ⟨((wanted_is (g := 7) (t := 33) (b := false) (c := true) rfl rfl (by rw [hB.size]; exact Nat.le_of_ble_eq_true rfl) eg).trans rfl), rfl⟩
      refine AllOps.cons ?_ ?_
      · intro ab W hC hB hdep
        obtain ⟨xg, (qg : xg = .bool true), eg⟩ := hdep 7 33 (by kernel_rfl)
        subst qg
        exact .inr ⟨((wanted_is (g := 7) (t := 33) (b := false) (c := true) rfl rfl (by rw [hB.size]; exact Nat.le_of_ble_eq_true rfl) eg).trans rfl), rfl⟩
      refine AllOps.cons ?_ ?_
      · intro ab W hC hB hdep
        obtain ⟨xg, (qg : xg = .bool true), eg⟩ := hdep 7 33 (by kernel_rfl)
        subst qg
        exact .inr ⟨((wanted_is (g := 7) (t := 33) (b := false) (c := true) rfl rfl (by rw [hB.size]; exact Nat.le_of_ble_eq_true rfl) eg).trans rfl), rfl⟩
      refine AllOps.cons ?_ ?_
      · intro ab W hC hB hdep
        obtain ⟨xg, (qg : xg = .bool true), eg⟩ := hdep 7 33 (by kernel_rfl)
        subst qg
        exact .inr ⟨((wanted_is (g := 7) (t := 33) (b := false) (c := true) rfl rfl (by rw [hB.size]; exact Nat.le_of_ble_eq_true rfl) eg).trans rfl), rfl⟩
      refine AllOps.cons ?_ ?_
      · intro ab W hC hB hdep
        obtain ⟨xg, (qg : xg = .bool true), eg⟩ := hdep 7 33 (by kernel_rfl)
        subst qg
        exact .inr ⟨((wanted_is (g := 7) (t := 33) (b := false) (c := true) rfl rfl (by rw [hB.size]; exact Nat.le_of_ble_eq_true rfl) eg).trans rfl), rfl⟩
      refine AllOps.cons ?_ ?_
      · intro ab W hC hB hdep
        obtain ⟨xg, (qg : xg = .bool true), eg⟩ := hdep 7 33 (by kernel_rfl)
        subst qg
        exact .inr ⟨((wanted_is (g := 7) (t := 33) (b := false) (c := true) rfl rfl (by rw [hB.size]; exact Nat.le_of_ble_eq_true rfl) eg).trans rfl), rfl⟩
      refine AllOps.cons ?_ ?_
      · intro ab W hC hB hdep
        refine .inl ⟨rfl, ?_⟩
        obtain ⟨x0, (q0 : (isV (.bool true)) x0 W), e0⟩ := hdep 7 33 (by kernel_rfl)
        obtain rfl : x0 = .bool true := q0
        obtain ⟨x1, (q1 : (isV undef) x1 W), e1⟩ := hdep 14 40 (by kernel_rfl)
        obtain rfl : x1 = undef := q1
        clear hB hdep
        refine goes_value (v := .bool true) ?_ hC rfl
        simp only [execOp, Act.eval, e0, e1]
        go_simp
      exact trivial
    · intro aa w5 hC hB hall
      obtain ⟨v0, (k0 : v0 = .pointer (some ⟨tb, 0, none⟩)), e0⟩ := hall 0 _ rfl
      obtain ⟨v1, (k1 : v1 = .pointer (some ⟨tb, 0, none⟩)), e1⟩ := hall 1 _ rfl
      obtain ⟨v2, (k2 : v2 = .pointer (some ⟨tb, 0, none⟩)), e2⟩ := hall 2 _ rfl
      obtain ⟨v3, (k3 : v3 = .pointer none), e3⟩ := hall 3 _ rfl
      obtain ⟨v4, (k4 : v4 = .agg #[.int .i64 t, .int .i64 n]), e4⟩ := hall 4 _ rfl
      obtain ⟨v5, (k5 : v5 = .int .i64 0), e5⟩ := hall 5 _ rfl
      obtain ⟨v6, (k6 : v6 = .bool true), e6⟩ := hall 6 _ rfl
      obtain ⟨v7, (k7 : v7 = .bool true), e7⟩ := hall 7 _ rfl
      obtain ⟨v8, (k8 : v8 = undef), e8⟩ := hall 8 _ rfl
      obtain ⟨v9, (k9 : v9 = undef), e9⟩ := hall 9 _ rfl
      obtain ⟨v10, (k10 : v10 = undef), e10⟩ := hall 10 _ rfl
      obtain ⟨v11, (k11 : v11 = undef), e11⟩ := hall 11 _ rfl
      obtain ⟨v12, (k12 : v12 = undef), e12⟩ := hall 12 _ rfl
      obtain ⟨v13, (k13 : v13 = undef), e13⟩ := hall 13 _ rfl
      obtain ⟨v14, (k14 : v14 = undef), e14⟩ := hall 14 _ rfl
      obtain ⟨v15, (k15 : v15 = .bool true), e15⟩ := hall 15 _ rfl
      subst k0 k1 k2 k3 k4 k5 k6 k7 k8 k9 k10 k11 k12 k13 k14 k15
      have hv : ∀ pq ∈ [((26 : Nat), (.pointer (some ⟨tb, 0, none⟩) : Value)), ((27 : Nat), (.pointer (some ⟨tb, 0, none⟩) : Value)), ((28 : Nat), (.pointer (some ⟨tb, 0, none⟩) : Value)), ((29 : Nat), (.pointer none : Value)), ((30 : Nat), (.agg #[.int .i64 t, .int .i64 n] : Value)), ((31 : Nat), (.int .i64 0 : Value)), ((32 : Nat), (.bool true : Value)), ((33 : Nat), (.bool true : Value)), ((34 : Nat), (undef : Value)), ((35 : Nat), (undef : Value)), ((36 : Nat), (undef : Value)), ((37 : Nat), (undef : Value)), ((38 : Nat), (undef : Value)), ((39 : Nat), (undef : Value)), ((40 : Nat), (undef : Value)), ((41 : Nat), (.bool true : Value))], aa.tmps.getD pq.1 undef = pq.2 := by
        intro pq hp
        simp only [List.mem_cons, List.not_mem_nil, or_false] at hp
        rcases hp with rfl | rfl | rfl | rfl | rfl | rfl | rfl | rfl | rfl | rfl | rfl | rfl | rfl | rfl | rfl | rfl
        · exact e0 _ rfl
        · exact e1 _ rfl
        · exact e2 _ rfl
        · exact e3 _ rfl
        · exact e4 _ rfl
        · exact e5 _ rfl
        · exact e6 _ rfl
        · exact e7 _ rfl
        · exact e8 _ rfl
        · exact e9 _ rfl
        · exact e10 _ rfl
        · exact e11 _ rfl
        · exact e12 _ rfl
        · exact e13 _ rfl
        · exact e14 _ rfl
        · exact e15 _ rfl
      have hact := act_fold _ hB hv (by kernel_rfl)
      subst hact
      clear hv hall hB e0 e1 e2 e3 e4 e5 e6 e7 e8 e9 e10 e11 e12 e13 e14 e15
      refine (‹∀ (a : Act) (w : World), Code.wp Tryz.prog _ _ a w → _›) _ w5 ?_
      simp only [List.foldl, List.setIfInBounds_toArray, List.set_cons_succ, List.set_cons_zero]
      have HB5 := Lib.hid (HB1.out.trans (hC.mono HB1.out.size))
      have HN5 := Lib.hid ((hC.block _ (Array.getElem?_eq_some_iff.1 HN.out.2).1).trans HN.out.2)
      clear hC
      obtain ⟨r0, r1, z0, z1⟩ := row2 HN5.out
      go_wp2_with fail
      have hx := put2n HN5.out (.bool false) (.slice none 0 0)
      clear r0 r1 z0 z1
      obtain ⟨r0, r1, _⟩ := row2 hx
      refine bodyPost_ret (v := .tuple #[.agg #[.bool false, .slice none 0 0], .bool false]) (by simp [results, Tryz.results55, go_sem, r0, r1]) rfl ⟨_, _, _, _, _, rfl, (HB5.out.setCell (by simp) _).setCell (by simp) _⟩
set_option maxRecDepth 100000 in
set_option maxHeartbeats 2000000 in
/-- Num, without a store. -/
theorem lnum_nil (v : Int × Int) (w : World) (h1 : -9223372036854775808 ≤ v.2) (h2 : v.2 ≤ 9223372036854775807) : Calls Tryz.prog 16 #[.pointer none, .agg #[.int .i64 v.1, .int .i64 v.2]] w fun e w' => e = .returned (.tuple #[.agg #[.bool false, .slice none 0 0], .int .i64 10]) ∧ Below w.heap.size w w' := by
  obtain ⟨t, n⟩ := v
  simp only at h1 h2 ⊢
  have HB1 := Lib.hid (below3 w (.cells #[.int .i64 t, .int .i64 n] 29) (.cells #[.bool false, .slice none 0 0] 24) (.cells #[.pointer none, .int .i64 0] 78))
  have HN := Lib.hid (@newsT w (.cells #[.int .i64 t, .int .i64 n] 29) (.cells #[.bool false, .slice none 0 0] 24) (.cells #[.pointer none, .int .i64 0] 78))
  have HR := Lib.hid (And.intro h1 h2)
  clear h1 h2
  go_enter Tryz.func16, Tryz.ntmps16
  go_upto_region 2 with fail
  generalize ((w.alloc (.cells #[.int .i64 t, .int .i64 n] 29)).alloc (.cells #[.bool false, .slice none 0 0] 24)).alloc (.cells #[.pointer none, .int .i64 0] 78) = w1 at *
  obtain ⟨p0, p1, _⟩ := row2 HN.out.1
  go_wp2_with fail
  refine (tnumber_nil (t, n) (w.heap.size + 2) w1 HN.out.2.2 HR.out.1 HR.out.2).mono ?_
  rintro e w2 ⟨ng, ao, m, c, ok, rfl, hb2⟩
  have HB2 := Lib.hid (HB1.out.trans (hb2.mono HB1.out.size))
  have HN2 := Lib.hid ((hb2.block _ (Array.getElem?_eq_some_iff.1 HN.out.2.1).1).trans HN.out.2.1)
  clear hb2 p0 p1
  have hb3 := below1 w2 (.cells #[.bool ng, .slice ao m c] 24)
  have HB3 := Lib.hid (HB2.out.trans (hb3.mono HB2.out.size))
  have HN3 := Lib.hid ((hb3.block _ (Array.getElem?_eq_some_iff.1 HN2.out).1).trans HN2.out)
  clear hb3
  go_upto_region 3 with fail
  generalize w2.alloc (.cells #[.bool ng, .slice ao m c] 24) = w3 at *
  obtain ⟨r0, r1, z0, z1⟩ := row2 HN3.out
  go_wp2_with fail
  have hx := put2n HN3.out (.bool false) (.slice none 0 0)
  clear r0 r1 z0 z1
  obtain ⟨r0, r1, _⟩ := row2 hx
  refine bodyPost_ret (v := .tuple #[.agg #[.bool false, .slice none 0 0], .int .i64 10]) (by simp [results, Tryz.results16, go_sem, r0, r1]) rfl ⟨rfl, (HB3.out.setCell (by simp) _).setCell (by simp) _⟩
end Go.Proofs.YtocladhggcaokaaGreatDoor
