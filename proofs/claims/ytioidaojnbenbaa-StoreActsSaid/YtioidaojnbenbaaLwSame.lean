/- law06's same (two rows of values), and the list's Used. -/
import Derived.Test.YtioidaojnbenbaaRsEqv
namespace Go.Proofs.Ytioidaojnbenbaa
open Go.RowKit

set_option maxRecDepth 100000 in
set_option maxHeartbeats 4000000 in
theorem rused_any (g : Nat) (Q : Nat → Nat) (s : St) (w : World) (h : RsW w g Q s) :
    Calls Try.prog 37 #[.pointer (some ⟨g, 0, none⟩)] w fun e w' => e = .returned (.int .i64 (s.U : Nat)) ∧ Below w.heap.size w w' := by
  obtain ⟨ms, ov, nv, hm⟩ := h
  obtain ⟨⟨_, c1, _, _⟩, _⟩ := hm.boxf
  have hgl := hm.glt
  clear hm
  go_enter Try.func37, Try.ntmps37
  go_wp2_with fail
  go_ret
  exact ⟨rfl, Below.refl _ _⟩

set_option maxRecDepth 100000 in
set_option maxHeartbeats 4000000 in
theorem vsame_any (x y : Value) (la lb : List (Int × Int)) (w : World) (hx : RowV w x la.length 2 (vcs la)) (hy : RowV w y lb.length 2 (vcs lb)) (hl : la.length ≤ 2000000) :
    Calls Try.prog 36 #[x, y] w fun e w' => e = .returned (.bool (decide (la = lb))) ∧ Below w.heap.size w w' := by
  obtain ⟨n, hn⟩ : ∃ n, n = la.length := ⟨_, rfl⟩
  obtain ⟨m, hm⟩ : ∃ m, m = lb.length := ⟨_, rfl⟩
  rw [← hn] at hx hl
  rw [← hm] at hy
  obtain ⟨ao, ac, rfl⟩ : ∃ ao ac, x = .slice ao n ac := by obtain ⟨_, _, ao, c, e, _⟩ := hx; exact ⟨ao, c, e⟩
  obtain ⟨bo, bc, rfl⟩ : ∃ ao ac, y = .slice ao m ac := by obtain ⟨_, _, ao, c, e, _⟩ := hy; exact ⟨ao, c, e⟩
  have HRA := Lib.hid hx
  have HRB := Lib.hid hy
  have HNA := Lib.hid hn
  have HNB := Lib.hid hm
  have HNL := Lib.hid hl
  clear hx hy hn hm hl
  by_cases hnm : n = m
  · subst hnm
    go_enter Try.func36, Try.ntmps36
    go_wp2_with fail
    go_loopw [5] (fun v wr => ∃ i : Nat, i ≤ n ∧ v = .int .i64 (i : Nat) ∧ Below w.heap.size w wr ∧ ∀ j, j < i → la[j]? = lb[j]?) (fun v _ => n - (intOf v).toNat)
    case atStart => exact ⟨0, Nat.zero_le _, rfl, Below.refl _ _, fun j hj => absurd hj (Nat.not_lt_zero _)⟩
    case round =>
      obtain ⟨i, hi, rfl, hbr, heq⟩ := hrel
      have HBR := Lib.hid hbr
      have HJ := Lib.hid heq
      clear hbr heq
      by_cases hlt : i < n
      · have hii : ((i : Nat) : Int) < ((n : Nat) : Int) := by omega
        have hib3 : ((i : Nat) : Int) < 2000000 := by have := HNL.out; omega
        have hia : i < la.length := by rw [← HNA.out]; exact hlt
        have hib : i < lb.length := by rw [← HNB.out]; exact hlt
        obtain ⟨ab, af, ac2, e1, _, c0, c1⟩ := row_pair (HRA.out.below HBR.out) HNA.out hia
        obtain ⟨bb, bf, bc2, e2, _, d0, d1⟩ := row_pair (HRB.out.below HBR.out) HNB.out hib
        have HIA := Lib.hid (List.getElem?_eq_getElem hia)
        have HIB := Lib.hid (List.getElem?_eq_getElem hib)
        generalize la[i]'hia = x at *
        generalize lb[i]'hib = y at *
        obtain ⟨x0, x1⟩ := x
        obtain ⟨y0, y1⟩ := y
        simp only at c0 c1 d0 d1
        injection e1 with e11 _ e13
        injection e2 with e21 _ e23
        subst e11 e13 e21 e23
        clear hia hib
        by_cases hxy : x0 = y0 ∧ x1 = y1
        · obtain ⟨rfl, rfl⟩ := hxy
          go_upto_region 6 with fail
          go_region
          go_wp2_with fail
          go_roundw
          case measure => simp only [intOf]; omega
          case rel => exact ⟨i + 1, by omega, by go_num, (by first | exact HBR.out | exact below_drewN HBR.out _ | exact HBR.out.drew), fun j hj => by
            rcases Nat.lt_or_ge j i with h | h
            · exact HJ.out j h
            · obtain rfl : j = i := by omega
              exact HIA.out.trans HIB.out.symm⟩
        · have hne : (x0 == y0) = false ∨ (x1 == y1) = false := by
            by_cases h1 : x0 = y0
            · refine .inr ?_
              rw [beq_eq_false_iff_ne]
              exact fun h2 => hxy ⟨h1, h2⟩
            · exact .inl (by rw [beq_eq_false_iff_ne]; exact h1)
          have HNE := Lib.hid hxy
          clear hxy
          rcases hne with hne | hne
          all_goals
            go_upto_region 6 with fail
            go_region
            go_wp2_with fail
            go_ret
            refine ⟨ret_bl (show decide (la = lb) = false by
              rw [decide_eq_false_iff_not]
              intro h
              subst h
              have := HIA.out.symm.trans HIB.out
              injection this with this
              exact HNE.out (Prod.mk.inj this)).symm, ?_⟩
            first | exact HBR.out | exact below_drewN HBR.out _ | exact HBR.out.drew
      · have hge : ¬ ((i : Nat) : Int) < ((n : Nat) : Int) := by omega
        go_wp2_with fail
        go_ret
        refine ⟨ret_bl (show decide (la = lb) = true by
          rw [decide_eq_true_iff]
          refine List.ext_getElem? fun j => ?_
          rcases Nat.lt_or_ge j i with h | h
          · exact HJ.out j h
          · rw [List.getElem?_eq_none (by have := HNA.out; omega), List.getElem?_eq_none (by have := HNB.out; omega)]).symm, HBR.out⟩
  · have hnm2 : (((n : Nat) : Int) == ((m : Nat) : Int)) = false := by rw [beq_eq_false_iff_ne]; omega
    have HNM := Lib.hid hnm
    clear hnm
    go_enter Try.func36, Try.ntmps36
    go_wp2_with fail
    go_ret
    exact ⟨ret_bl (show decide (la = lb) = false by rw [decide_eq_false_iff_not]; intro h; exact HNM.out (by rw [HNA.out, HNB.out, h])).symm, Below.refl _ _⟩
end Go.Proofs.Ytioidaojnbenbaa
