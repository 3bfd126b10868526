/- A small integer goes up; law08's answers; the law LiftNil. -/
import Derived.Test.YtocladhggcaokaaGreatDoorLfAns
import Derived.Test.YtocladhggcaokaaGreatDoorLfLight
namespace Go.Proofs.YtocladhggcaokaaGreatDoor
open Go.RowKit

set_option maxRecDepth 100000 in
set_option maxHeartbeats 4000000 in
theorem tdatum_fix (p : Option Addr) (tb : Nat) (n : Int) (w : World) (ht : w.heap[tb]? = some (.cells #[.pointer p, .int .i64 0] 78 (0, 0))) (h1 : -9223372036854775808 ≤ n) (h2 : n ≤ 9223372036854775807) (w0 : World) (hb0 : Below w0.heap.size w0 w) (htb : w0.heap.size ≤ tb) :
    Calls Tryz.prog 51 #[.pointer (some ⟨tb, 0, none⟩), .agg #[.int .i64 4, .int .i64 n], .int .i64 1] w fun e w' => ∃ ng ao m c, e = .returned (.tuple #[.agg #[.int .i64 7, .string ⟨#[]⟩, .bool ng, .slice ao m c, .slice none 0 0, .int .i64 0], .int .i64 0]) ∧ Below w0.heap.size w0 w' := by
  have hb1 := below2 w (.cells #[.int .i64 4, .int .i64 n] 29) (.cells #[.int .i64 0, .string ⟨#[]⟩, .bool false, .slice none 0 0, .slice none 0 0, .int .i64 0] 27)
  have HB1 := Lib.hid (hb0.trans (hb1.mono hb0.size))
  have HN := Lib.hid (@newsA w (.cells #[.int .i64 4, .int .i64 n] 29) (.cells #[.int .i64 0, .string ⟨#[]⟩, .bool false, .slice none 0 0, .slice none 0 0, .int .i64 0] 27))
  have htl := (Array.getElem?_eq_some_iff.1 ht).1
  have HT := Lib.hid ((hb1.block tb htl).trans ht)
  have HR := Lib.hid (And.intro h1 (And.intro h2 (And.intro htb (And.intro htl hb0.size))))
  clear ht h1 h2 hb0 htb hb1 htl
  go_enter Tryz.func51, Tryz.ntmps51
  go_upto_region 1 with fail
  generalize (w.alloc (.cells #[.int .i64 4, .int .i64 n] 29)).alloc (.cells #[.int .i64 0, .string ⟨#[]⟩, .bool false, .slice none 0 0, .slice none 0 0, .int .i64 0] 27) = w1 at *
  have c1 := cell_heap HT.out 1
  have z1 := frozen_heap HT.out 1
  have HT2 := Lib.hid ((rowSet HT.out 1 (.int .i64 1)).trans (by simp : _ = some (.cells #[.pointer p, .int .i64 1] 78 (0, 0))))
  have HV2 := Lib.hid ((Below.heap_setCell w1 ⟨tb, 1, none⟩ (.int .i64 1) w.heap.size (by have := HR.out.2.2.2.1; show w.heap.size ≠ tb; omega)).trans HN.out.1)
  have HD2 := Lib.hid ((Below.heap_setCell w1 ⟨tb, 1, none⟩ (.int .i64 1) (w.heap.size + 1) (by have := HR.out.2.2.2.1; show w.heap.size + 1 ≠ tb; omega)).trans HN.out.2)
  have HB2 : Hid (Below w0.heap.size w0 (w1.setCell ⟨tb, 1, none⟩ (.int .i64 1))) := Lib.hid (HB1.out.setCell HR.out.2.2.1 _)
  clear HN HB1
  go_upto_region 2 with fail
  generalize w1.setCell ⟨tb, 1, none⟩ (.int .i64 1) = w2 at *
  clear c1 z1 HT
  have c1 := cell_heap HT2.out 1
  obtain ⟨v0, v1, _⟩ := row2 HV2.out
  go_wp2_with fail
  refine (of_any n w2 HR.out.1 HR.out.2.1).mono ?_
  rintro e w3 ⟨x, ng, rs, rfl, ⟨sv, rfl, hsl⟩, hb3, _, _⟩
  obtain ⟨_, ao, cap, rfl, _, _⟩ := id hsl
  have HB3 := Lib.hid (HB2.out.trans (hb3.mono HB2.out.size))
  have HD3 := Lib.hid ((hb3.block _ (Array.getElem?_eq_some_iff.1 HD2.out).1).trans HD2.out)
  clear hb3 hsl c1 v0 v1
  obtain ⟨⟨q0, q1, q2, q3, q4, q5⟩, z0, z1, z2, z3, z4, z5⟩ := row6n HD3.out
  go_wp2_with fail
  have hx := put6n HD3.out (.int .i64 7) (.string ⟨#[]⟩) (.bool ng) (.slice ao rs.length cap) (.slice none 0 0) (.int .i64 0)
  clear q0 q1 q2 q3 q4 q5 z0 z1 z2 z3 z4 z5
  obtain ⟨⟨r0, r1, r2, r3, r4, r5⟩, _⟩ := row6n hx
  have hle : w0.heap.size ≤ w.heap.size + 1 := by have := HR.out.2.2.2.2; omega
  refine bodyPost_ret (v := .tuple #[.agg #[.int .i64 7, .string ⟨#[]⟩, .bool ng, .slice ao rs.length cap, .slice none 0 0, .int .i64 0], .int .i64 0]) (by simp [results, Tryz.results51, go_sem, r0, r1, r2, r3, r4, r5]) rfl ⟨_, _, _, _, rfl, (((((HB3.out.setCell hle _).setCell hle _).setCell hle _).setCell hle _).setCell hle _).setCell hle _⟩
set_option maxRecDepth 100000 in
set_option maxHeartbeats 4000000 in
theorem lup_fix (g : Nat) (R : Nat → Nat) (s : St) (n : Int) (w : World) (h : StW w g R s) (h1 : -9223372036854775808 ≤ n) (h2 : n ≤ 9223372036854775807) :
    Calls Tryz.prog 13 #[.pointer (some ⟨g, 0, none⟩), .agg #[.int .i64 4, .int .i64 n]] w fun e w' => ∃ ng ao m c, e = .returned (.tuple #[.agg #[.int .i64 7, .string ⟨#[]⟩, .bool ng, .slice ao m c, .slice none 0 0, .int .i64 0], .int .i64 0]) ∧ Below w.heap.size w w' := by
  have HB1 := Lib.hid (below2 w (.cells #[.int .i64 4, .int .i64 n] 29) (.cells #[.int .i64 0, .string ⟨#[]⟩, .bool false, .slice none 0 0, .slice none 0 0, .int .i64 0] 27))
  have HN := Lib.hid (@newsA w (.cells #[.int .i64 4, .int .i64 n] 29) (.cells #[.int .i64 0, .string ⟨#[]⟩, .bool false, .slice none 0 0, .slice none 0 0, .int .i64 0] 27))
  have HS := Lib.hid (h.below HB1.out)
  have HR := Lib.hid (And.intro h1 h2)
  clear h h1 h2
  go_enter Tryz.func13, Tryz.ntmps13
  go_upto_region 1 with fail
  generalize (w.alloc (.cells #[.int .i64 4, .int .i64 n] 29)).alloc (.cells #[.int .i64 0, .string ⟨#[]⟩, .bool false, .slice none 0 0, .slice none 0 0, .int .i64 0] 27) = w1 at *
  obtain ⟨p0, p1, _⟩ := row2 HN.out.1
  go_wp2_with fail
  refine (stsound_any g R s (4, n) w1 HS.out).mono ?_
  rintro e w2 ⟨rfl, hb2⟩
  have hq : sdV s.os.length s.ns.length (4, n) = true := by unfold sdV; simp
  rw [hq]
  have HB2 := Lib.hid (HB1.out.trans (hb2.mono HB1.out.size))
  have HV2 := Lib.hid ((hb2.block _ (Array.getElem?_eq_some_iff.1 HN.out.1).1).trans HN.out.1)
  have HD2 := Lib.hid ((hb2.block _ (Array.getElem?_eq_some_iff.1 HN.out.2).1).trans HN.out.2)
  clear hb2 hq p0 p1 HN HS
  have hb3 := below1 w2 (.cells #[.pointer (some ⟨g, 0, none⟩), .int .i64 0] 78)
  have HB3 := Lib.hid (HB2.out.trans (hb3.mono HB2.out.size))
  have HV3 := Lib.hid ((hb3.block _ (Array.getElem?_eq_some_iff.1 HV2.out).1).trans HV2.out)
  have HD3 := Lib.hid ((hb3.block _ (Array.getElem?_eq_some_iff.1 HD2.out).1).trans HD2.out)
  have HT3 := Lib.hid (box1 w2 #[.pointer (some ⟨g, 0, none⟩), .int .i64 0] 78)
  have HB23 := Lib.hid hb3
  have HDD := Lib.hid HD2.out
  have hdl := (Array.getElem?_eq_some_iff.1 HD2.out).1
  have HDL := Lib.hid hdl
  clear hb3 hdl HV2 HD2
  go_upto_region 4 with fail
  generalize w2.alloc (.cells #[.pointer (some ⟨g, 0, none⟩), .int .i64 0] 78) = w3 at *
  obtain ⟨p0, p1, _⟩ := row2 HV3.out
  go_wp2_with fail
  refine (tdatum_fix _ w2.heap.size n w3 HT3.out HR.out.1 HR.out.2 w2 HB23.out (Nat.le_refl _)).mono ?_
  rintro e w4 ⟨ng, ao, m, c, rfl, hb4⟩
  have HB4 := Lib.hid (HB2.out.trans (hb4.mono HB2.out.size))
  have HD4 := Lib.hid ((hb4.block _ HDL.out).trans HDD.out)
  clear hb4 p0 p1
  obtain ⟨⟨q0, q1, q2, q3, q4, q5⟩, z0, z1, z2, z3, z4, z5⟩ := row6n HD4.out
  go_wp2_with fail
  have hx := put6n HD4.out (.int .i64 7) (.string ⟨#[]⟩) (.bool ng) (.slice ao m c) (.slice none 0 0) (.int .i64 0)
  clear q0 q1 q2 q3 q4 q5 z0 z1 z2 z3 z4 z5
  obtain ⟨⟨r0, r1, r2, r3, r4, r5⟩, _⟩ := row6n hx
  have hle : w.heap.size ≤ w.heap.size + 1 := by omega
  refine bodyPost_ret (v := .tuple #[.agg #[.int .i64 7, .string ⟨#[]⟩, .bool ng, .slice ao m c, .slice none 0 0, .int .i64 0], .int .i64 0]) (by simp [results, Tryz.results13, go_sem, r0, r1, r2, r3, r4, r5]) rfl ⟨_, _, _, _, rfl, (((((HB4.out.setCell hle _).setCell hle _).setCell hle _).setCell hle _).setCell hle _).setCell hle _⟩
end Go.Proofs.YtocladhggcaokaaGreatDoor
