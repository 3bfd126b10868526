/- WrapMarks -/
import Derived.Test.YtoefkhpgabmieaaWpLaw
namespace Go.Proofs.Ytoefkhpgabmieaa
open Go.RowKit

theorem Wr.parts {w : World} {a b : Value} {m s : List Int} (h : Wr w (.agg #[a, b]) m s) : Iz w a m ∧ Iz w b s := by
  obtain ⟨_, _, e, h1, h2⟩ := h.cells
  injection e with e
  injection e with e
  injection e with e1 e2
  injection e2 with e2
  subst e1 e2
  exact ⟨h1, h2⟩
theorem Iz.at0 {w : World} {ao : Option Addr} {n c : Nat} {zs : List Int} (h : Iz w (.slice ao n c) zs) (h0 : 0 < zs.length) : ∃ b off, ao = some ⟨b, off, none⟩ ∧ w.cell? ⟨b, off, none⟩ = some (.int .i64 (gz zs 0)) := by
  obtain ⟨_, ao', cap, e, _, hr⟩ := h.read
  injection e with e1 e2 e3
  subst e1
  obtain ⟨b, off, h1, _, h2⟩ := hr 0 h0
  exact ⟨b, off, h1, h2⟩
theorem mrkA_yes {n : Int} (h : markB n 0 = true) : mrkA n = ([n], [0]) := by unfold mrkA; rw [h]; rfl
theorem mrkA_no {n : Int} (h : markB n 0 = false) : mrkA n = ([], []) := by unfold mrkA; rw [h]; rfl
theorem ribA_yes {n : Int} (h : 0 < n) : ribA n = ([], [n]) := by unfold ribA; rw [if_pos h]
theorem ribA_no {n : Int} (h : ¬ 0 < n) : ribA n = ([], []) := by unfold ribA; rw [if_neg h]
theorem snd_mark {n : Int} (h : markB n 0 = true) : sndB [n] [0] = true := by
  unfold sndB lrgB sndS
  have h1 : mksB [n] = true := mksB_true fun j hj => by
    have : j = 0 := by simpa using hj
    subst this
    exact h
  rw [h1]
  rfl
theorem snd_rib {n : Int} (h : 0 < n) : sndB [] [n] = true := by
  unfold sndB lrgB sndS
  have h1 : sbsB [n] = true := sbsB_true fun j hj => by
    have : j = 0 := by simpa using hj
    subst this
    show (0 : Int) ≤ n
    omega
  have h2 : zc [n] = 0 := by
    unfold zc
    rw [List.countP_cons, List.countP_nil]
    have : (n == 0) = false := by rw [beq_eq_false_iff_ne]; omega
    rw [this]
    rfl
  rw [h1, h2]
  rfl

set_option maxRecDepth 100000 in
set_option maxHeartbeats 4000000 in
theorem wrapmarks_any (n : Int) (w : World) :
    Calls Try.prog 4 #[.int .i64 n] w fun e w' => e = .returned (.bool true) ∧ Below w.heap.size w w' := by
  have HB0 := Lib.hid (Below.refl w.heap.size w)
  by_cases hp : 0 < n
  · have HMB : Hid (markB n 0 = true) := Lib.hid (by unfold markB; rw [decide_eq_true hp]; rfl)
    have HMK := Lib.hid (mrkA_yes HMB.out)
    have HRK := Lib.hid (ribA_yes hp)
    have HPP := Lib.hid hp
    go_enter Try.func4, Try.ntmps4
    go_wp2_with fail
    refine (mark_any n w).mono ?_
    rintro e w1 ⟨⟨x1, rfl, hx1⟩, hbx⟩
    rw [HMK.out] at hx1
    have HB1 := Lib.hid (HB0.out.trans (hbx.mono HB0.out.size))
    clear hbx
    have HM_1 := Lib.hid hx1
    clear hx1
    obtain ⟨_, _, rfl, hp1, hp2⟩ := HM_1.out.cells
    obtain ⟨_, o1, q1, rfl, _, _⟩ := hp1.cases
    obtain ⟨_, o2, q2, rfl, _, _⟩ := hp2.cases
    clear hp1 hp2
    go_wp2_with fail
    refine (rib_any n w1).mono ?_
    rintro e w2 ⟨⟨x2, rfl, hx2⟩, hbx⟩
    rw [HRK.out] at hx2
    have HB2 := Lib.hid (HB1.out.trans (hbx.mono HB1.out.size))
    have HM_2 := Lib.hid (HM_1.out.below hbx)
    clear HB1 HM_1
    clear hbx
    have HR_2 := Lib.hid hx2
    clear hx2
    obtain ⟨_, _, rfl, hp1, hp2⟩ := HR_2.out.cells
    obtain ⟨_, o3, q3, rfl, _, _⟩ := hp1.cases
    obtain ⟨_, o4, q4, rfl, _, _⟩ := hp2.cases
    clear hp1 hp2
    try simp only [List.length_nil, List.length_cons, Nat.zero_add] at *
    have hbx := below2 w2 (.cells #[.slice o1 1 q1, .slice o2 1 q2] 24) (.cells #[.slice o3 0 q3, .slice o4 1 q4] 24)
    have hnx := @newsp2 w2 (.cells #[.slice o1 1 q1, .slice o2 1 q2] 24) (.cells #[.slice o3 0 q3, .slice o4 1 q4] 24)
    have HB3 := Lib.hid (HB2.out.trans (hbx.mono HB2.out.size))
    have HM_3 := Lib.hid (HM_2.out.below hbx)
    have HR_3 := Lib.hid (HR_2.out.below hbx)
    clear HB2 HM_2 HR_2
    have Ra9 := Lib.hid hnx.1
    have Rb9 := Lib.hid hnx.2
    clear hbx hnx
    go_upto_region 2 with fail
    generalize (w2.alloc (.cells #[.slice o1 1 q1, .slice o2 1 q2] 24)).alloc (.cells #[.slice o3 0 q3, .slice o4 1 q4] 24) = w3 at *
    obtain ⟨ca2, da2, ya2, za2⟩ := rowp2 Ra9.out
    obtain ⟨cb2, db2, yb2, zb2⟩ := rowp2 Rb9.out
    go_wp2_with fail
    refine (answers9_any _).mono ?_
    rintro e w4 ⟨rfl, hbx⟩
    have HB4 := Lib.hid (HB3.out.trans (hbx.mono HB3.out.size))
    have Ra4 := Lib.hid ((hbx.block _ (Array.getElem?_eq_some_iff.1 Ra9.out).1).trans Ra9.out)
    have Rb4 := Lib.hid ((hbx.block _ (Array.getElem?_eq_some_iff.1 Rb9.out).1).trans Rb9.out)
    have HM_4 := Lib.hid (HM_3.out.below hbx)
    have HR_4 := Lib.hid (HR_3.out.below hbx)
    clear HB3 Ra9 Rb9 HM_3 HR_3
    clear hbx
    clear ca2 da2 ya2 za2 cb2 db2 yb2 zb2
    obtain ⟨ca3, da3, ya3, za3⟩ := rowp2 Ra4.out
    obtain ⟨cb3, db3, yb3, zb3⟩ := rowp2 Rb4.out
    go_wp2_with fail
    refine (wsound_any _ [n] [0] _ HM_4.out).mono ?_
    rintro e w5 ⟨rfl, hbx⟩
    rw [snd_mark HMB.out]
    have HB5 := Lib.hid (HB4.out.trans (hbx.mono HB4.out.size))
    have Ra5 := Lib.hid ((hbx.block _ (Array.getElem?_eq_some_iff.1 Ra4.out).1).trans Ra4.out)
    have Rb5 := Lib.hid ((hbx.block _ (Array.getElem?_eq_some_iff.1 Rb4.out).1).trans Rb4.out)
    have HM_5 := Lib.hid (HM_4.out.below hbx)
    have HR_5 := Lib.hid (HR_4.out.below hbx)
    clear HB4 Ra4 Rb4 HM_4 HR_4
    clear hbx
    clear ca3 da3 ya3 za3 cb3 db3 yb3 zb3
    obtain ⟨ca4, da4, ya4, za4⟩ := rowp2 Ra5.out
    obtain ⟨cb4, db4, yb4, zb4⟩ := rowp2 Rb5.out
    go_wp2_with fail
    refine (wsound_any _ [] [n] _ HR_5.out).mono ?_
    rintro e w6 ⟨rfl, hbx⟩
    rw [snd_rib HPP.out]
    have HB6 := Lib.hid (HB5.out.trans (hbx.mono HB5.out.size))
    have Ra6 := Lib.hid ((hbx.block _ (Array.getElem?_eq_some_iff.1 Ra5.out).1).trans Ra5.out)
    have Rb6 := Lib.hid ((hbx.block _ (Array.getElem?_eq_some_iff.1 Rb5.out).1).trans Rb5.out)
    have HM_6 := Lib.hid (HM_5.out.below hbx)
    have HR_6 := Lib.hid (HR_5.out.below hbx)
    clear HB5 Ra5 Rb5 HM_5 HR_5
    clear hbx
    clear ca4 da4 ya4 za4 cb4 db4 yb4 zb4
    obtain ⟨ca5, da5, ya5, za5⟩ := rowp2 Ra6.out
    obtain ⟨cb5, db5, yb5, zb5⟩ := rowp2 Rb6.out
    obtain ⟨mb, mo, rfl, g1⟩ := HM_6.out.parts.1.at0 (Nat.zero_lt_succ _)
    obtain ⟨sb, so, rfl, g2⟩ := HM_6.out.parts.2.at0 (Nat.zero_lt_succ _)
    have g1 : w6.cell? ⟨mb, mo, none⟩ = some (.int .i64 n) := g1
    have g2 : w6.cell? ⟨sb, so, none⟩ = some (.int .i64 0) := g2
    obtain ⟨rb, ro, rfl, g3⟩ := HR_6.out.parts.2.at0 (Nat.zero_lt_succ _)
    have g3 : w6.cell? ⟨rb, ro, none⟩ = some (.int .i64 n) := g3
    go_wp2_with fail
    go_ret
    exact ⟨rfl, HB6.out⟩
  · by_cases hm : n = -1
    · subst hm
      have HMB : Hid (markB (-1) 0 = true) := Lib.hid (by decide)
      have HMK := Lib.hid (mrkA_yes HMB.out)
      have HRK := Lib.hid (ribA_no hp)
      go_enter Try.func4, Try.ntmps4
      go_wp2_with fail
      refine (mark_any (-1) w).mono ?_
      rintro e w1 ⟨⟨x1, rfl, hx1⟩, hbx⟩
      rw [HMK.out] at hx1
      have HB1 := Lib.hid (HB0.out.trans (hbx.mono HB0.out.size))
      clear hbx
      have HM_1 := Lib.hid hx1
      clear hx1
      obtain ⟨_, _, rfl, hp1, hp2⟩ := HM_1.out.cells
      obtain ⟨_, o1, q1, rfl, _, _⟩ := hp1.cases
      obtain ⟨_, o2, q2, rfl, _, _⟩ := hp2.cases
      clear hp1 hp2
      go_wp2_with fail
      refine (rib_any (-1) w1).mono ?_
      rintro e w2 ⟨⟨x2, rfl, hx2⟩, hbx⟩
      rw [HRK.out] at hx2
      have HB2 := Lib.hid (HB1.out.trans (hbx.mono HB1.out.size))
      have HM_2 := Lib.hid (HM_1.out.below hbx)
      clear HB1 HM_1
      clear hbx
      have HR_2 := Lib.hid hx2
      clear hx2
      obtain ⟨_, _, rfl, hp1, hp2⟩ := HR_2.out.cells
      obtain ⟨_, o3, q3, rfl, _, _⟩ := hp1.cases
      obtain ⟨_, o4, q4, rfl, _, _⟩ := hp2.cases
      clear hp1 hp2
      try simp only [List.length_nil, List.length_cons, Nat.zero_add] at *
      have hbx := below2 w2 (.cells #[.slice o1 1 q1, .slice o2 1 q2] 24) (.cells #[.slice o3 0 q3, .slice o4 0 q4] 24)
      have hnx := @newsp2 w2 (.cells #[.slice o1 1 q1, .slice o2 1 q2] 24) (.cells #[.slice o3 0 q3, .slice o4 0 q4] 24)
      have HB3 := Lib.hid (HB2.out.trans (hbx.mono HB2.out.size))
      have HM_3 := Lib.hid (HM_2.out.below hbx)
      have HR_3 := Lib.hid (HR_2.out.below hbx)
      clear HB2 HM_2 HR_2
      have Ra9 := Lib.hid hnx.1
      have Rb9 := Lib.hid hnx.2
      clear hbx hnx
      go_upto_region 2 with fail
      generalize (w2.alloc (.cells #[.slice o1 1 q1, .slice o2 1 q2] 24)).alloc (.cells #[.slice o3 0 q3, .slice o4 0 q4] 24) = w3 at *
      obtain ⟨ca2, da2, ya2, za2⟩ := rowp2 Ra9.out
      obtain ⟨cb2, db2, yb2, zb2⟩ := rowp2 Rb9.out
      go_wp2_with fail
      refine (answers9_any _).mono ?_
      rintro e w4 ⟨rfl, hbx⟩
      have HB4 := Lib.hid (HB3.out.trans (hbx.mono HB3.out.size))
      have Ra4 := Lib.hid ((hbx.block _ (Array.getElem?_eq_some_iff.1 Ra9.out).1).trans Ra9.out)
      have Rb4 := Lib.hid ((hbx.block _ (Array.getElem?_eq_some_iff.1 Rb9.out).1).trans Rb9.out)
      have HM_4 := Lib.hid (HM_3.out.below hbx)
      have HR_4 := Lib.hid (HR_3.out.below hbx)
      clear HB3 Ra9 Rb9 HM_3 HR_3
      clear hbx
      clear ca2 da2 ya2 za2 cb2 db2 yb2 zb2
      obtain ⟨ca3, da3, ya3, za3⟩ := rowp2 Ra4.out
      obtain ⟨cb3, db3, yb3, zb3⟩ := rowp2 Rb4.out
      go_wp2_with fail
      refine (wsound_any _ [-1] [0] _ HM_4.out).mono ?_
      rintro e w5 ⟨rfl, hbx⟩
      rw [snd_mark HMB.out]
      have HB5 := Lib.hid (HB4.out.trans (hbx.mono HB4.out.size))
      have Ra5 := Lib.hid ((hbx.block _ (Array.getElem?_eq_some_iff.1 Ra4.out).1).trans Ra4.out)
      have Rb5 := Lib.hid ((hbx.block _ (Array.getElem?_eq_some_iff.1 Rb4.out).1).trans Rb4.out)
      have HM_5 := Lib.hid (HM_4.out.below hbx)
      have HR_5 := Lib.hid (HR_4.out.below hbx)
      clear HB4 Ra4 Rb4 HM_4 HR_4
      clear hbx
      clear ca3 da3 ya3 za3 cb3 db3 yb3 zb3
      obtain ⟨ca4, da4, ya4, za4⟩ := rowp2 Ra5.out
      obtain ⟨cb4, db4, yb4, zb4⟩ := rowp2 Rb5.out
      go_wp2_with fail
      refine (wsound_any _ [] [] _ HR_5.out).mono ?_
      rintro e w6 ⟨rfl, hbx⟩
      rw [(show sndB [] [] = true by decide)]
      have HB6 := Lib.hid (HB5.out.trans (hbx.mono HB5.out.size))
      have Ra6 := Lib.hid ((hbx.block _ (Array.getElem?_eq_some_iff.1 Ra5.out).1).trans Ra5.out)
      have Rb6 := Lib.hid ((hbx.block _ (Array.getElem?_eq_some_iff.1 Rb5.out).1).trans Rb5.out)
      have HM_6 := Lib.hid (HM_5.out.below hbx)
      have HR_6 := Lib.hid (HR_5.out.below hbx)
      clear HB5 Ra5 Rb5 HM_5 HR_5
      clear hbx
      clear ca4 da4 ya4 za4 cb4 db4 yb4 zb4
      obtain ⟨ca5, da5, ya5, za5⟩ := rowp2 Ra6.out
      obtain ⟨cb5, db5, yb5, zb5⟩ := rowp2 Rb6.out
      obtain ⟨mb, mo, rfl, g1⟩ := HM_6.out.parts.1.at0 (Nat.zero_lt_succ _)
      obtain ⟨sb, so, rfl, g2⟩ := HM_6.out.parts.2.at0 (Nat.zero_lt_succ _)
      have g1 : w6.cell? ⟨mb, mo, none⟩ = some (.int .i64 (-1)) := g1
      have g2 : w6.cell? ⟨sb, so, none⟩ = some (.int .i64 0) := g2
      go_wp2_with fail
      go_ret
      exact ⟨rfl, HB6.out⟩
    · have HMK := Lib.hid (mrkA_no (n := n) (by unfold markB; rw [decide_eq_false hp, decide_eq_false hm]; rfl))
      have HRK := Lib.hid (ribA_no hp)
      have hmb : (n == -1) = false := by rw [beq_eq_false_iff_ne]; exact hm
      have hl1 : n < 1 := by omega
      clear hm
      go_enter Try.func4, Try.ntmps4
      go_wp2_with fail
      refine (mark_any n w).mono ?_
      rintro e w1 ⟨⟨x1, rfl, hx1⟩, hbx⟩
      rw [HMK.out] at hx1
      have HB1 := Lib.hid (HB0.out.trans (hbx.mono HB0.out.size))
      clear hbx
      have HM_1 := Lib.hid hx1
      clear hx1
      obtain ⟨_, _, rfl, hp1, hp2⟩ := HM_1.out.cells
      obtain ⟨_, o1, q1, rfl, _, _⟩ := hp1.cases
      obtain ⟨_, o2, q2, rfl, _, _⟩ := hp2.cases
      clear hp1 hp2
      go_wp2_with fail
      refine (rib_any n w1).mono ?_
      rintro e w2 ⟨⟨x2, rfl, hx2⟩, hbx⟩
      rw [HRK.out] at hx2
      have HB2 := Lib.hid (HB1.out.trans (hbx.mono HB1.out.size))
      have HM_2 := Lib.hid (HM_1.out.below hbx)
      clear HB1 HM_1
      clear hbx
      have HR_2 := Lib.hid hx2
      clear hx2
      obtain ⟨_, _, rfl, hp1, hp2⟩ := HR_2.out.cells
      obtain ⟨_, o3, q3, rfl, _, _⟩ := hp1.cases
      obtain ⟨_, o4, q4, rfl, _, _⟩ := hp2.cases
      clear hp1 hp2
      try simp only [List.length_nil, List.length_cons, Nat.zero_add] at *
      have hbx := below2 w2 (.cells #[.slice o1 0 q1, .slice o2 0 q2] 24) (.cells #[.slice o3 0 q3, .slice o4 0 q4] 24)
      have hnx := @newsp2 w2 (.cells #[.slice o1 0 q1, .slice o2 0 q2] 24) (.cells #[.slice o3 0 q3, .slice o4 0 q4] 24)
      have HB3 := Lib.hid (HB2.out.trans (hbx.mono HB2.out.size))
      have HM_3 := Lib.hid (HM_2.out.below hbx)
      have HR_3 := Lib.hid (HR_2.out.below hbx)
      clear HB2 HM_2 HR_2
      have Ra9 := Lib.hid hnx.1
      have Rb9 := Lib.hid hnx.2
      clear hbx hnx
      go_upto_region 2 with fail
      generalize (w2.alloc (.cells #[.slice o1 0 q1, .slice o2 0 q2] 24)).alloc (.cells #[.slice o3 0 q3, .slice o4 0 q4] 24) = w3 at *
      obtain ⟨ca2, da2, ya2, za2⟩ := rowp2 Ra9.out
      obtain ⟨cb2, db2, yb2, zb2⟩ := rowp2 Rb9.out
      go_wp2_with fail
      refine (answers9_any _).mono ?_
      rintro e w4 ⟨rfl, hbx⟩
      have HB4 := Lib.hid (HB3.out.trans (hbx.mono HB3.out.size))
      have Ra4 := Lib.hid ((hbx.block _ (Array.getElem?_eq_some_iff.1 Ra9.out).1).trans Ra9.out)
      have Rb4 := Lib.hid ((hbx.block _ (Array.getElem?_eq_some_iff.1 Rb9.out).1).trans Rb9.out)
      have HM_4 := Lib.hid (HM_3.out.below hbx)
      have HR_4 := Lib.hid (HR_3.out.below hbx)
      clear HB3 Ra9 Rb9 HM_3 HR_3
      clear hbx
      clear ca2 da2 ya2 za2 cb2 db2 yb2 zb2
      obtain ⟨ca3, da3, ya3, za3⟩ := rowp2 Ra4.out
      obtain ⟨cb3, db3, yb3, zb3⟩ := rowp2 Rb4.out
      go_wp2_with fail
      refine (wsound_any _ [] [] _ HM_4.out).mono ?_
      rintro e w5 ⟨rfl, hbx⟩
      rw [(show sndB [] [] = true by decide)]
      have HB5 := Lib.hid (HB4.out.trans (hbx.mono HB4.out.size))
      have Ra5 := Lib.hid ((hbx.block _ (Array.getElem?_eq_some_iff.1 Ra4.out).1).trans Ra4.out)
      have Rb5 := Lib.hid ((hbx.block _ (Array.getElem?_eq_some_iff.1 Rb4.out).1).trans Rb4.out)
      have HM_5 := Lib.hid (HM_4.out.below hbx)
      have HR_5 := Lib.hid (HR_4.out.below hbx)
      clear HB4 Ra4 Rb4 HM_4 HR_4
      clear hbx
      clear ca3 da3 ya3 za3 cb3 db3 yb3 zb3
      obtain ⟨ca4, da4, ya4, za4⟩ := rowp2 Ra5.out
      obtain ⟨cb4, db4, yb4, zb4⟩ := rowp2 Rb5.out
      go_wp2_with fail
      refine (wsound_any _ [] [] _ HR_5.out).mono ?_
      rintro e w6 ⟨rfl, hbx⟩
      rw [(show sndB [] [] = true by decide)]
      have HB6 := Lib.hid (HB5.out.trans (hbx.mono HB5.out.size))
      have Ra6 := Lib.hid ((hbx.block _ (Array.getElem?_eq_some_iff.1 Ra5.out).1).trans Ra5.out)
      have Rb6 := Lib.hid ((hbx.block _ (Array.getElem?_eq_some_iff.1 Rb5.out).1).trans Rb5.out)
      have HM_6 := Lib.hid (HM_5.out.below hbx)
      have HR_6 := Lib.hid (HR_5.out.below hbx)
      clear HB5 Ra5 Rb5 HM_5 HR_5
      clear hbx
      clear ca4 da4 ya4 za4 cb4 db4 yb4 zb4
      obtain ⟨ca5, da5, ya5, za5⟩ := rowp2 Ra6.out
      obtain ⟨cb5, db5, yb5, zb5⟩ := rowp2 Rb6.out
      go_wp2_with fail
      go_ret
      exact ⟨rfl, HB6.out⟩
end Go.Proofs.Ytoefkhpgabmieaa
