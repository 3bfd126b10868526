/- law06's act, whichever it is; the law StoreSound. -/
import Derived.Test.YtioidaojnbenbaaLwAct
import Derived.Test.YtioidaojnbenbaaStOpA
import Derived.Test.YtioidaojnbenbaaOrdG
import Derived.Test.YtioidaojnbenbaaOrdL
namespace Go.Proofs.Ytioidaojnbenbaa
open Go.RowKit

theorem act_any (w0 w : World) (gs gm : Nat) (s : St) (n : Nat) (κ : Nat → Option Obj) (a : AcE) (h : TwoX w0 w gs gm s s κ) (hg : Gd s n) (hn : n < 1000) (hr : RowV w0 a.sv a.l.length 2 (vcs a.l)) (hl : a.l.length ≤ 100) (ht : a.t.size ≤ 140737488355328) :
    Calls Try.prog 9 #[.pointer (some ⟨gs, 0, none⟩), .pointer (some ⟨gm, 0, none⟩), .agg (acL a).toArray] w fun e w' => e = .returned (.bool true) ∧ ∃ s', TwoX w0 w' gs gm s' s' κ ∧ Gd s' (n + 1) := by
  obtain ⟨d, k, i, sv, l, v, x, t⟩ := a
  rcases (by omega : d = 1 ∨ d = 2 ∨ d = 3 ∨ d = 4 ∨ d = 5 ∨ d = 6 ∨ d = 7 ∨ (d ≠ 1 ∧ d ≠ 2 ∧ d ≠ 3 ∧ d ≠ 4 ∧ d ≠ 5 ∧ d ≠ 6 ∧ d ≠ 7)) with hd | hd | hd | hd | hd | hd | hd | hd
  · exact act1_any w0 w gs gm s n κ d k i sv l v x t h hg hn hr hl ht hd
  · exact act2_any w0 w gs gm s n κ d k i sv l v x t h hg hn hr hl ht hd
  · exact act3_any w0 w gs gm s n κ d k i sv l v x t h hg hn hr hl ht hd
  · exact act4_any w0 w gs gm s n κ d k i sv l v x t h hg hn hr hl ht hd
  · exact act5_any w0 w gs gm s n κ d k i sv l v x t h hg hn hr hl ht hd
  · exact act6_any w0 w gs gm s n κ d k i sv l v x t h hg hn hr hl ht hd
  · exact act7_any w0 w gs gm s n κ d k i sv l v x t h hg hn hr hl ht hd
  · exact act0_any w0 w gs gm s n κ d k i sv l v x t h hg hn hr hl ht hd
set_option maxRecDepth 100000 in
theorem nsound_all (v : Int × Int) (w : World) : Calls Try.prog 11 #[.pointer none, .agg #[.int .i64 v.1, .int .i64 v.2]] w fun e w' => e = .returned (.bool false) ∧ Below w.heap.size w w' := by
  obtain ⟨t, n⟩ := v
  simp only
  have HB1 := Lib.hid (below1 w (.cells #[.int .i64 t, .int .i64 n] 35))
  obtain ⟨p0, p1, _⟩ := row2 (box1 w #[.int .i64 t, .int .i64 n] 35)
  go_enter Try.func11, Try.ntmps11
  go_wp2_with fail
  go_ret
  exact ⟨rfl, HB1.out⟩

set_option maxRecDepth 100000 in
set_option maxHeartbeats 8000000 in
theorem storesound_any (av : Value) (es : List AcE) (v : Int × Int) (w : World) (he : ActsAt w av es) :
    Calls Try.prog 4 #[av, .agg #[.int .i64 v.1, .int .i64 v.2]] w fun e w' => e = .returned (.bool true) ∧ Below w.heap.size w w' := by
  obtain ⟨z0, z1⟩ := v
  simp only
  have HE := Lib.hid he
  obtain ⟨ao, ec, rfl⟩ : ∃ ao ec, av = .slice ao es.length ec := by obtain ⟨us, ⟨_, _, ao, c, e, _⟩, _⟩ := he; exact ⟨ao, c, e⟩
  clear he
  have HB1 := Lib.hid (below1 w (.cells #[.int .i64 z0, .int .i64 z1] 35))
  have HV := Lib.hid (box1 w #[.int .i64 z0, .int .i64 z1] 35)
  go_enter Try.func4, Try.ntmps4
  go_upto_region 1 with fail
  generalize w.alloc (.cells #[.int .i64 z0, .int .i64 z1] 35) = w1 at *
  obtain ⟨vb, hvb⟩ : ∃ b, b = w.heap.size := ⟨_, rfl⟩
  rw [← hvb] at HV ⊢
  have HVB := Lib.hid hvb
  clear hvb
  go_wp2_with fail
  refine (qnew 200 w w1 HB1.out (by omega)).mono ?_
  rintro e w2 ⟨gs, hg, rfl, hq, hb⟩
  have HT := Lib.hid (two_new hq (show 200 ≤ 1048576 by omega))
  have HV2 := Lib.hid ((hb.block vb (Array.getElem?_eq_some_iff.1 HV.out).1).trans HV.out)
  have HQ2 := Lib.hid hq
  have hgv : vb ≠ gs := by have := (Array.getElem?_eq_some_iff.1 HV.out).1; omega
  have HRN : Hid (Rnew gs vb = 0) := Lib.hid (Classical.byContradiction fun hn => hgv (Rnew_ne hn))
  clear hq hb hg HV HB1 hgv
  go_wp2_with fail
  refine (answers6_any w2).mono ?_
  rintro e w3 ⟨rfl, hb3⟩
  have HQ3 := Lib.hid (HQ2.out.below hb3)
  have HV3 := Lib.hid ((hb3.block vb (Array.getElem?_eq_some_iff.1 HV2.out).1).trans HV2.out)
  clear hb3 HQ2 HV2 HT
  have HT3 := Lib.hid (two_new HQ3.out (show 200 ≤ 1048576 by omega))
  have HX3 : Hid (TwoX w (w3.alloc (.cells #[.int .i64 ((200 : Nat) : Int), .int .i64 0, .slice none 0 0, .slice none 0 0] 32)) gs w3.heap.size (St.new 200) (St.new 200) (kadd (fun _ => none) vb (.cells #[.int .i64 z0, .int .i64 z1] 35 (0, 0)))) := Lib.hid ⟨_, _, HT3.out, fun b o hk => by
    have hvl := (Array.getElem?_eq_some_iff.1 HV3.out).1
    by_cases e : b = vb
    · subst e
      rw [kadd_self] at hk
      obtain rfl := Option.some.inj hk
      exact ⟨((below1 w3 (.cells #[.int .i64 ((200 : Nat) : Int), .int .i64 0, .slice none 0 0, .slice none 0 0] 32)).block b hvl).trans HV3.out, HRN.out, Classical.byContradiction fun hn => by have := Rnew_ne hn; omega, by have := HVB.out; omega⟩
    · rw [kadd_ne e] at hk; cases hk⟩
  clear HT3 HV3 HQ3 HRN
  go_upto_region 5 with fail
  generalize w3.alloc (.cells #[.int .i64 ((200 : Nat) : Int), .int .i64 0, .slice none 0 0, .slice none 0 0] 32) = w4 at *
  generalize w3.heap.size = gm at *
  go_wp2_with fail
  go_loopw [8] (fun v wr => ∃ (i : Nat) (s : St), i ≤ es.length ∧ v = .int .i64 (i : Nat) ∧ i ≤ 30 ∧ TwoX w wr gs gm s s (kadd (fun _ => none) vb (.cells #[.int .i64 z0, .int .i64 z1] 35 (0, 0))) ∧ Gd s i) (fun v _ => es.length - (intOf v).toNat)
  case atStart => exact ⟨0, _, Nat.zero_le _, rfl, Nat.zero_le _, HX3.out, Gd.new _ _⟩
  case round =>
    obtain ⟨i, s, hi, rfl, hi30, ht, hgd⟩ := hrel
    have HT := Lib.hid ht
    have HG := Lib.hid hgd
    clear ht hgd HX3
    by_cases hlt : i < es.length ∧ i < 30
    · have hii : ((i : Nat) : Int) < ((es.length : Nat) : Int) := by omega
      have h30 : ((i : Nat) : Int) < 30 := by omega
      obtain ⟨eb, eo, cap, he, hel, hcell⟩ := HE.out.at hlt.1
      injection he with he1 he2 he3
      subst he1 he3
      have hrow : RowV w (es[i]'hlt.1).sv (es[i]'hlt.1).l.length 2 (vcs (es[i]'hlt.1).l) ∧ (es[i]'hlt.1).t.size ≤ reachBytes := by obtain ⟨us, _, h2⟩ := HE.out; exact (h2 i hlt.1).2
      generalize es[i]'hlt.1 = a at *
      have HROW := Lib.hid hrow
      clear hrow
      have hcl : ∀ j u, (acL a)[j]? = some u → wr.cell? ⟨eb, eo + i * 9 + j, none⟩ = some u := fun j u hu => (HT.out.bel.cell (p := ⟨eb, _, none⟩) hel).trans (hcell j u hu)
      have HCL := Lib.hid hcl
      clear hcl hcell
      have c3 := HCL.out 3 _ rfl
      obtain ⟨so, sc, hsv⟩ := rowv_slice HROW.out.1
      rw [hsv] at c3
      by_cases hl : a.l.length ≤ 100
      · have hl2 : ((a.l.length : Nat) : Int) ≤ 100 := by omega
        have HL := Lib.hid hl
        have c0 := HCL.out 0 _ rfl
        have c1 := HCL.out 1 _ rfl
        have c2 := HCL.out 2 _ rfl
        have c4 := HCL.out 4 _ rfl
        have c5 := HCL.out 5 _ rfl
        have c6 := HCL.out 6 _ rfl
        have c7 := HCL.out 7 _ rfl
        have c8 := HCL.out 8 _ rfl
        simp only [Nat.add_zero] at c0
        have hac := act_any w wr gs gm s i _ a HT.out HG.out (by omega) HROW.out.1 hl (by have := HROW.out.2; unfold reachBytes at this; omega)
        unfold acL at hac
        rw [hsv] at hac
        have HAC := Lib.hid hac
        clear hac hsv hl
        go_wp2_with fail
        refine HAC.out.mono ?_
        rintro e w5 ⟨rfl, s', ht5, hg5⟩
        have HT5 := Lib.hid ht5
        have HG5 := Lib.hid hg5
        clear ht5 hg5 c0 c1 c2 c3 c4 c5 c6 c7 c8
        go_wp2_with fail
        go_roundw
        case measure => simp only [intOf]; omega
        case rel => exact ⟨i + 1, s', by omega, by go_num, by omega, HT5.out, HG5.out⟩
      · have hl2 : ¬ ((a.l.length : Nat) : Int) ≤ 100 := by omega
        clear hsv hl
        go_wp2_with fail
        go_roundw
        case measure => simp only [intOf]; omega
        case rel => exact ⟨i + 1, s, by omega, by go_num, by omega, HT.out, HG.out.more (by omega)⟩
    · have hex : ¬ ((i : Nat) : Int) < ((es.length : Nat) : Int) ∨ (((i : Nat) : Int) < ((es.length : Nat) : Int) ∧ ¬ ((i : Nat) : Int) < 30) := by omega
      have HKV : Hid (kadd (fun _ => none) vb (.cells #[.int .i64 z0, .int .i64 z1] 35 (0, 0)) vb = some (.cells #[.int .i64 z0, .int .i64 z1] 35 (0, 0))) := Lib.hid kadd_self
      have HSS := Lib.hid (fun W => (fun (hT : TwoX w W gs gm s s (kadd (fun _ => none) vb (.cells #[.int .i64 z0, .int .i64 z1] 35 (0, 0)))) => (show Calls Try.prog 11 #[.pointer (some ⟨gs, 0, none⟩), .agg #[.int .i64 z0, .int .i64 z1]] W fun e w' => e = .returned (.bool (sdV s.os.length s.ns.length (z0, z1))) ∧ Below W.heap.size W w' by obtain ⟨R, hst, _⟩ := hT.sstep; exact stsound_any gs R s (z0, z1) W hst)))
      have HRS := Lib.hid (fun W => (fun (hT : TwoX w W gs gm s s (kadd (fun _ => none) vb (.cells #[.int .i64 z0, .int .i64 z1] 35 (0, 0)))) => (show Calls Try.prog 12 #[.pointer (some ⟨gm, 0, none⟩), .agg #[.int .i64 z0, .int .i64 z1]] W fun e w' => e = .returned (.bool (sdV s.os.length s.ns.length (z0, z1))) ∧ Below W.heap.size W w' by obtain ⟨R, hst, _⟩ := hT.rstep; exact rsound_any gm R s (z0, z1) W hst)))
      generalize sdV s.os.length s.ns.length (z0, z1) = q at *
      rcases hex with hge | ⟨hii, hge⟩
      all_goals
        go_upto_region 11 with fail
        refine wp_region_slotsG (psi [isV (.pointer (some ⟨gs, 0, none⟩)), isV (.agg #[.int .i64 z0, .int .i64 z1]), isV (.bool q), isV (.pointer (some ⟨gm, 0, none⟩)), isV (.agg #[.int .i64 z0, .int .i64 z1]), isV (.bool q), isV (.bool true), isV (.bool true), isV (.pointer none), isV (.agg #[.int .i64 z0, .int .i64 z1]), isV (.bool false), isV (.bool true), isV (.bool true), isV (.bool true)]) (fun W => TwoX w W gs gm s s (kadd (fun _ => none) vb (.cells #[.int .i64 z0, .int .i64 z1] 35 (0, 0)))) (by kernel_rfl) HT.out.drew (psi_mono ?_) (by kernel_rfl) (by kernel_rfl) ?_ ?_
        · intro pq hp
          simp only [List.mem_cons, List.not_mem_nil, or_false] at hp
          (repeat' rcases hp with rfl | hp) <;> first | exact isV_stays _ | (subst hp; exact isV_stays _)
        · refine AllOps.cons ?_ ?_
          · intro ab W hC hB hdep
            refine .inl ⟨rfl, ?_⟩
            have b0 : ab.tmps.getD 5 undef = .pointer (some ⟨gs, 0, none⟩) := hB.off 5 (by kernel_rfl)
            clear hB hdep
            refine goes_value (v := .pointer (some ⟨gs, 0, none⟩)) ?_ hC rfl
            simp only [execOp, Act.eval, b0]
            go_simp
          refine AllOps.cons ?_ ?_
          · intro ab W hC hB hdep
            refine .inl ⟨rfl, ?_⟩
            have b0 : ab.tmps.getD 3 undef = .pointer (some ⟨vb, 0, none⟩) := hB.off 3 (by kernel_rfl)
            obtain ⟨p0, p1, _⟩ := row2 (hC.at HKV.out)
            clear hB hdep
            refine goes_value (v := .agg #[.int .i64 z0, .int .i64 z1]) ?_ hC rfl
            simp only [execOp, Act.eval, b0]
            go_simp
          refine AllOps.cons ?_ ?_
          · intro ab W hC hB hdep
            refine .inl ⟨rfl, ?_⟩
            obtain ⟨x0, (q0 : (isV (.pointer (some ⟨gs, 0, none⟩))) x0 W), e0⟩ := hdep 0 46 (by kernel_rfl)
            obtain rfl : x0 = .pointer (some ⟨gs, 0, none⟩) := q0
            obtain ⟨x1, (q1 : (isV (.agg #[.int .i64 z0, .int .i64 z1])) x1 W), e1⟩ := hdep 1 47 (by kernel_rfl)
            obtain rfl : x1 = .agg #[.int .i64 z0, .int .i64 z1] := q1
            clear hB hdep
            refine goes_call (f := 11) (args := #[.pointer (some ⟨gs, 0, none⟩), .agg #[.int .i64 z0, .int .i64 z1]]) ?_ ?_
            · simp only [execOp]
              go_simp
            · exact (HSS.out W hC).mono fun e w7 ⟨he, hb⟩ => ⟨_, he, hC.below hb, hb, rfl⟩
          refine AllOps.cons ?_ ?_
          · intro ab W hC hB hdep
            refine .inl ⟨rfl, ?_⟩
            have b0 : ab.tmps.getD 7 undef = .pointer (some ⟨gm, 0, none⟩) := hB.off 7 (by kernel_rfl)
            clear hB hdep
            refine goes_value (v := .pointer (some ⟨gm, 0, none⟩)) ?_ hC rfl
            simp only [execOp, Act.eval, b0]
            go_simp
          refine AllOps.cons ?_ ?_
          · intro ab W hC hB hdep
            refine .inl ⟨rfl, ?_⟩
            have b0 : ab.tmps.getD 3 undef = .pointer (some ⟨vb, 0, none⟩) := hB.off 3 (by kernel_rfl)
            obtain ⟨p0, p1, _⟩ := row2 (hC.at HKV.out)
            clear hB hdep
            refine goes_value (v := .agg #[.int .i64 z0, .int .i64 z1]) ?_ hC rfl
            simp only [execOp, Act.eval, b0]
            go_simp
          refine AllOps.cons ?_ ?_
          · intro ab W hC hB hdep
            refine .inl ⟨rfl, ?_⟩
            obtain ⟨x0, (q0 : (isV (.pointer (some ⟨gm, 0, none⟩))) x0 W), e0⟩ := hdep 3 49 (by kernel_rfl)
            obtain rfl : x0 = .pointer (some ⟨gm, 0, none⟩) := q0
            obtain ⟨x1, (q1 : (isV (.agg #[.int .i64 z0, .int .i64 z1])) x1 W), e1⟩ := hdep 4 50 (by kernel_rfl)
            obtain rfl : x1 = .agg #[.int .i64 z0, .int .i64 z1] := q1
            clear hB hdep
            refine goes_call (f := 12) (args := #[.pointer (some ⟨gm, 0, none⟩), .agg #[.int .i64 z0, .int .i64 z1]]) ?_ ?_
            · simp only [execOp]
              go_simp
            · exact (HRS.out W hC).mono fun e w7 ⟨he, hb⟩ => ⟨_, he, hC.below hb, hb, rfl⟩
          refine AllOps.cons ?_ ?_
          · intro ab W hC hB hdep
            refine .inl ⟨rfl, ?_⟩
            obtain ⟨x0, (q0 : (isV (.bool q)) x0 W), e0⟩ := hdep 2 48 (by kernel_rfl)
            obtain rfl : x0 = .bool q := q0
            obtain ⟨x1, (q1 : (isV (.bool q)) x1 W), e1⟩ := hdep 5 51 (by kernel_rfl)
            obtain rfl : x1 = .bool q := q1
            clear hB hdep
            refine goes_value (v := .bool true) ?_ hC rfl
            simp only [execOp, Act.eval, e0, e1]
            go_simp
          refine AllOps.cons ?_ ?_
          · intro ab W hC hB hdep
            refine .inl ⟨rfl, ?_⟩
            obtain ⟨x0, (q0 : (isV (.bool true)) x0 W), e0⟩ := hdep 6 52 (by kernel_rfl)
            obtain rfl : x0 = .bool true := q0
            clear hB hdep
            refine goes_value (v := .bool true) ?_ hC rfl
            simp only [execOp, Act.eval, e0]
            go_simp
          refine AllOps.cons ?_ ?_
          · intro ab W hC hB hdep
            obtain ⟨xg, (qg : xg = .bool true), eg⟩ := hdep 7 53 (by kernel_rfl)
            subst qg
            refine .inl ⟨((wanted_is (g := 7) (t := 53) (b := true) (c := true) rfl rfl (by rw [hB.size]; exact Nat.le_of_ble_eq_true rfl) eg).trans rfl), ?_⟩
            have b0 : ab.tmps.getD 9 undef = .pointer none := hB.off 9 (by kernel_rfl)
            clear hB hdep
            refine goes_value (v := .pointer none) ?_ hC rfl
            simp only [execOp, Act.eval, b0]
            go_simp
          refine AllOps.cons ?_ ?_
          · intro ab W hC hB hdep
            obtain ⟨xg, (qg : xg = .bool true), eg⟩ := hdep 7 53 (by kernel_rfl)
            subst qg
            refine .inl ⟨((wanted_is (g := 7) (t := 53) (b := true) (c := true) rfl rfl (by rw [hB.size]; exact Nat.le_of_ble_eq_true rfl) eg).trans rfl), ?_⟩
            have b0 : ab.tmps.getD 3 undef = .pointer (some ⟨vb, 0, none⟩) := hB.off 3 (by kernel_rfl)
            obtain ⟨p0, p1, _⟩ := row2 (hC.at HKV.out)
            clear hB hdep
            refine goes_value (v := .agg #[.int .i64 z0, .int .i64 z1]) ?_ hC rfl
            simp only [execOp, Act.eval, b0]
            go_simp
          refine AllOps.cons ?_ ?_
          · intro ab W hC hB hdep
            obtain ⟨xg, (qg : xg = .bool true), eg⟩ := hdep 7 53 (by kernel_rfl)
            subst qg
            refine .inl ⟨((wanted_is (g := 7) (t := 53) (b := true) (c := true) rfl rfl (by rw [hB.size]; exact Nat.le_of_ble_eq_true rfl) eg).trans rfl), ?_⟩
            obtain ⟨x0, (q0 : (isV (.pointer none)) x0 W), e0⟩ := hdep 8 54 (by kernel_rfl)
            obtain rfl : x0 = .pointer none := q0
            obtain ⟨x1, (q1 : (isV (.agg #[.int .i64 z0, .int .i64 z1])) x1 W), e1⟩ := hdep 9 55 (by kernel_rfl)
            obtain rfl : x1 = .agg #[.int .i64 z0, .int .i64 z1] := q1
            clear hB hdep
            refine goes_call (f := 11) (args := #[.pointer none, .agg #[.int .i64 z0, .int .i64 z1]]) ?_ ?_
            · simp only [execOp]
              go_simp
            · exact (nsound_all (z0, z1) W).mono fun e w7 ⟨he, hb⟩ => ⟨_, he, hC.below hb, hb, rfl⟩
          refine AllOps.cons ?_ ?_
          · intro ab W hC hB hdep
            obtain ⟨xg, (qg : xg = .bool true), eg⟩ := hdep 7 53 (by kernel_rfl)
            subst qg
            refine .inl ⟨((wanted_is (g := 7) (t := 53) (b := true) (c := true) rfl rfl (by rw [hB.size]; exact Nat.le_of_ble_eq_true rfl) eg).trans rfl), ?_⟩
            obtain ⟨x0, (q0 : (isV (.bool false)) x0 W), e0⟩ := hdep 10 56 (by kernel_rfl)
            obtain rfl : x0 = .bool false := q0
            clear hB hdep
            refine goes_value (v := .bool true) ?_ hC rfl
            simp only [execOp, Act.eval, e0]
            go_simp
          refine AllOps.cons ?_ ?_
          · intro ab W hC hB hdep
            refine .inl ⟨rfl, ?_⟩
            obtain ⟨x0, (q0 : (isV (.bool true)) x0 W), e0⟩ := hdep 7 53 (by kernel_rfl)
            obtain rfl : x0 = .bool true := q0
            obtain ⟨x1, (q1 : (isV (.bool true)) x1 W), e1⟩ := hdep 11 57 (by kernel_rfl)
            obtain rfl : x1 = .bool true := q1
            clear hB hdep
            refine goes_value (v := .bool true) ?_ hC rfl
            simp only [execOp, Act.eval, e0, e1]
            go_simp
          refine AllOps.cons ?_ ?_
          · intro ab W hC hB hdep
            refine .inl ⟨rfl, ?_⟩
            obtain ⟨x0, (q0 : (isV (.bool true)) x0 W), e0⟩ := hdep 12 58 (by kernel_rfl)
            obtain rfl : x0 = .bool true := q0
            clear hB hdep
            refine goes_value (v := .bool true) ?_ hC rfl
            simp only [execOp, Act.eval, e0]
            go_simp
          exact trivial
        · intro aa w8 hC hB hall
          obtain ⟨v0, (k0 : v0 = .pointer (some ⟨gs, 0, none⟩)), e0⟩ := hall 0 _ rfl
          obtain ⟨v1, (k1 : v1 = .agg #[.int .i64 z0, .int .i64 z1]), e1⟩ := hall 1 _ rfl
          obtain ⟨v2, (k2 : v2 = .bool q), e2⟩ := hall 2 _ rfl
          obtain ⟨v3, (k3 : v3 = .pointer (some ⟨gm, 0, none⟩)), e3⟩ := hall 3 _ rfl
          obtain ⟨v4, (k4 : v4 = .agg #[.int .i64 z0, .int .i64 z1]), e4⟩ := hall 4 _ rfl
          obtain ⟨v5, (k5 : v5 = .bool q), e5⟩ := hall 5 _ rfl
          obtain ⟨v6, (k6 : v6 = .bool true), e6⟩ := hall 6 _ rfl
          obtain ⟨v7, (k7 : v7 = .bool true), e7⟩ := hall 7 _ rfl
          obtain ⟨v8, (k8 : v8 = .pointer none), e8⟩ := hall 8 _ rfl
          obtain ⟨v9, (k9 : v9 = .agg #[.int .i64 z0, .int .i64 z1]), e9⟩ := hall 9 _ rfl
          obtain ⟨v10, (k10 : v10 = .bool false), e10⟩ := hall 10 _ rfl
          obtain ⟨v11, (k11 : v11 = .bool true), e11⟩ := hall 11 _ rfl
          obtain ⟨v12, (k12 : v12 = .bool true), e12⟩ := hall 12 _ rfl
          obtain ⟨v13, (k13 : v13 = .bool true), e13⟩ := hall 13 _ rfl
          subst k0 k1 k2 k3 k4 k5 k6 k7 k8 k9 k10 k11 k12 k13
          have hv : ∀ pq ∈ [((46 : Nat), (.pointer (some ⟨gs, 0, none⟩) : Value)), ((47 : Nat), (.agg #[.int .i64 z0, .int .i64 z1] : Value)), ((48 : Nat), (.bool q : Value)), ((49 : Nat), (.pointer (some ⟨gm, 0, none⟩) : Value)), ((50 : Nat), (.agg #[.int .i64 z0, .int .i64 z1] : Value)), ((51 : Nat), (.bool q : Value)), ((52 : Nat), (.bool true : Value)), ((53 : Nat), (.bool true : Value)), ((54 : Nat), (.pointer none : Value)), ((55 : Nat), (.agg #[.int .i64 z0, .int .i64 z1] : Value)), ((56 : Nat), (.bool false : Value)), ((57 : Nat), (.bool true : Value)), ((58 : Nat), (.bool true : Value)), ((4 : Nat), (.bool true : Value))], aa.tmps.getD pq.1 undef = pq.2 := by
            intro pq hp
            simp only [List.mem_cons, List.not_mem_nil, or_false] at hp
            rcases hp with rfl | rfl | rfl | rfl | rfl | rfl | rfl | rfl | rfl | rfl | rfl | rfl | rfl | rfl
            · exact e0 _ rfl
            · exact e1 _ rfl
            · exact e2 _ rfl
            · exact e3 _ rfl
            · exact e4 _ rfl
            · exact e5 _ rfl
            · exact e6 _ rfl
            · exact e7 _ rfl
            · exact e8 _ rfl
            · exact e9 _ rfl
            · exact e10 _ rfl
            · exact e11 _ rfl
            · exact e12 _ rfl
            · exact e13 _ rfl
          have hact := act_fold _ hB hv (by kernel_rfl)
          subst hact
          clear hv hall hB e0 e1 e2 e3 e4 e5 e6 e7 e8 e9 e10 e11 e12 e13
          refine (‹∀ (a : Act) (w : World), Code.wp Try.prog _ _ a w → _›) _ w8 ?_
          simp only [List.foldl, List.setIfInBounds_toArray, List.set_cons_succ, List.set_cons_zero]
          have HB8 := Lib.hid hC.bel
          clear hC
          go_wp2_with fail
          go_ret
          exact ⟨rfl, HB8.out⟩
end Go.Proofs.Ytioidaojnbenbaa
