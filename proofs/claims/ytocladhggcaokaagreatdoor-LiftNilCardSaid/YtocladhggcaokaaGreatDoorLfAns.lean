/- law08's answers: a small integer goes down and up. -/
import Derived.Test.YtocladhggcaokaaGreatDoorLfNil
import Derived.Test.YtocladhggcaokaaGreatDoorROf
import Derived.Test.YtocladhggcaokaaGreatDoorStSet
namespace Go.Proofs.YtocladhggcaokaaGreatDoor
open Go.RowKit

set_option maxRecDepth 100000 in
theorem dindex_nil (w : World) : Calls Tryz.prog 130 #[.slice none 0 0, .func (.func 48) #[] #[]] w fun e w' => e = .returned (.int .i64 (-1)) ∧ Below w.heap.size w w' := by
  go_enter Tryz.func130, Tryz.ntmps130
  go_wp2_with fail
  refine wp_loop_rounds 1 ?_
  rw [rounds_succ]
  go_wp2_with fail
  go_ret
  exact ⟨rfl, Below.refl _ _⟩
set_option maxRecDepth 100000 in
theorem lstrange_int (ng : Bool) (lv : Value) (w : World) : Calls Tryz.prog 48 #[.agg #[.int .i64 7, .string ⟨#[]⟩, .bool ng, lv, .slice none 0 0, .int .i64 0]] w fun e w' => e = .returned (.bool false) ∧ Below w.heap.size w w' := by
  have HB1 := Lib.hid (below1 w (.cells #[.int .i64 7, .string ⟨#[]⟩, .bool ng, lv, .slice none 0 0, .int .i64 0] 27))
  go_enter Tryz.func48, Tryz.ntmps48
  go_wp2_with fail
  refine (show Calls Tryz.prog 85 #[.slice none 0 0, .func (.func 48) #[] #[]] _ fun e w' => e = .returned (.bool false) ∧ Below (w.heap.size + 1) (w.alloc (.cells #[.int .i64 7, .string ⟨#[]⟩, .bool ng, lv, .slice none 0 0, .int .i64 0] 27)) w' from ?_).mono ?_
  · go_enter Tryz.func85, Tryz.ntmps85
    go_wp2_with fail
    refine (dindex_nil _).mono ?_
    rintro e w2 ⟨rfl, hb2⟩
    have HB2 := Lib.hid hb2
    clear hb2
    go_wp2_with fail
    go_ret
    exact ⟨rfl, by simpa using HB2.out⟩
  · rintro e w2 ⟨rfl, hb2⟩
    have HB2 := Lib.hid (HB1.out.trans (hb2.mono (by omega)))
    clear hb2
    go_wp2_with fail
    go_ret
    exact ⟨rfl, HB2.out⟩
set_option maxRecDepth 100000 in
set_option maxHeartbeats 2000000 in
theorem rdsnd_int (ng : Bool) (sv : Value) (rs : List Nat) (w : World) (hs : Sl .u32 w sv rs) (hsn : Snd ng rs) : Calls Tryz.prog 47 #[.agg #[.int .i64 7, .string ⟨#[]⟩, .bool ng, sv, .slice none 0 0, .int .i64 0]] w fun e w' => e = .returned (.bool true) ∧ Below w.heap.size w w' := by
  obtain ⟨_, ao, cap, rfl, _, _⟩ := id hs
  have HB2 := Lib.hid (below2 w (.cells #[.int .i64 7, .string ⟨#[]⟩, .bool ng, .slice ao rs.length cap, .slice none 0 0, .int .i64 0] 27) (.cells #[.int .i64 0] 112))
  have HN := Lib.hid (@newsA w (.cells #[.int .i64 7, .string ⟨#[]⟩, .bool ng, .slice ao rs.length cap, .slice none 0 0, .int .i64 0] 27) (.cells #[.int .i64 0] 112))
  have HS := Lib.hid (hs.below HB2.out)
  have HSB : Hid (∀ b, rs.length ≠ 0 → (Value.slice ao rs.length cap).ownBlock = some b → b ≠ w.heap.size + 1) := Lib.hid fun b h0 hb e => by have := hs.lt b h0 hb; omega
  have HSN := Lib.hid hsn
  clear hs hsn
  go_enter Tryz.func47, Tryz.ntmps47
  go_upto_region 2 with fail
  generalize (w.alloc (.cells #[.int .i64 7, .string ⟨#[]⟩, .bool ng, .slice ao rs.length cap, .slice none 0 0, .int .i64 0] 27)).alloc (.cells #[.int .i64 0] 112) = w1 at *
  obtain ⟨⟨p0, p1, p2, p3, p4, p5⟩, _⟩ := row6n HN.out.1
  go_wp2_with fail
  refine (show Calls Tryz.prog 84 #[.pointer (some ⟨w.heap.size + 1, 0, none⟩), .agg #[.int .i64 7, .string ⟨#[]⟩, .bool ng, .slice ao rs.length cap, .slice none 0 0, .int .i64 0], .int .i64 1] w1 fun e w' => e = .returned (.bool true) ∧ Below w.heap.size w w' from ?_).mono ?_
  · clear p0 p1 p2 p3 p4 p5
    have hb3 := below1 w1 (.cells #[.int .i64 7, .string ⟨#[]⟩, .bool ng, .slice ao rs.length cap, .slice none 0 0, .int .i64 0] 27)
    have HB3 := Lib.hid (HB2.out.trans (hb3.mono HB2.out.size))
    have HC3 := Lib.hid ((hb3.block _ (Array.getElem?_eq_some_iff.1 HN.out.2).1).trans HN.out.2)
    have HD3 := Lib.hid (heap_alloc_new w1 (.cells #[.int .i64 7, .string ⟨#[]⟩, .bool ng, .slice ao rs.length cap, .slice none 0 0, .int .i64 0] 27))
    have HS3 := Lib.hid (HS.out.below hb3)
    have hne : w1.heap.size ≠ w.heap.size + 1 := by have := (Array.getElem?_eq_some_iff.1 HN.out.2).1; omega
    have HNE := Lib.hid hne
    clear hb3 hne
    go_enter Tryz.func84, Tryz.ntmps84
    go_upto_region 1 with fail
    generalize w1.alloc (.cells #[.int .i64 7, .string ⟨#[]⟩, .bool ng, .slice ao rs.length cap, .slice none 0 0, .int .i64 0] 27) = w3 at *
    have c0 := cell_heap HC3.out 0
    have z0 := frozen_heap HC3.out 0
    have HC4 := Lib.hid (rowSet HC3.out 0 (.int .i64 1))
    have HD4 := Lib.hid ((Below.heap_setCell w3 ⟨w.heap.size + 1, 0, none⟩ (.int .i64 1) w1.heap.size HNE.out).trans HD3.out)
    have HB4 : Hid (Below w.heap.size w (w3.setCell ⟨w.heap.size + 1, 0, none⟩ (.int .i64 1))) := Lib.hid (HB3.out.setCell (by simp) _)
    have HS4 : Hid (Sl .u32 (w3.setCell ⟨w.heap.size + 1, 0, none⟩ (.int .i64 1)) (.slice ao rs.length cap) rs) := Lib.hid (HS3.out.move (P := fun b => b ≠ w.heap.size + 1) (fun b h0 hb e => HSB.out b h0 hb e) ((Keeps.refl _ _).set (p := ⟨w.heap.size + 1, 0, none⟩) (fun h => h rfl) _))
    go_upto_region 2 with fail
    generalize w3.setCell ⟨w.heap.size + 1, 0, none⟩ (.int .i64 1) = w4 at *
    clear c0 z0
    have c0 := cell_heap HC4.out 0
    obtain ⟨⟨p0, p1, p2, p3, p4, p5⟩, _⟩ := row6n HD4.out
    go_wp2_with fail
    refine (sound_any ng _ rs w4 HS4.out HSN.out.2.1.wide).mono ?_
    rintro e w5 ⟨rfl, hb5⟩
    rw [sndB_true HSN.out]
    have HB5 := Lib.hid (HB4.out.trans (hb5.mono HB4.out.size))
    have HD5 := Lib.hid ((hb5.block _ (Array.getElem?_eq_some_iff.1 HD4.out).1).trans HD4.out)
    clear hb5 c0 p0 p1 p2 p3 p4 p5
    obtain ⟨⟨p0, p1, p2, p3, p4, p5⟩, _⟩ := row6n HD5.out
    go_wp2_with fail
    go_ret
    exact ⟨rfl, HB5.out⟩
  · rintro e w5 ⟨rfl, hb5⟩
    have HB5 := Lib.hid hb5
    clear hb5 p0 p1 p2 p3 p4 p5
    go_wp2_with fail
    go_ret
    exact ⟨rfl, HB5.out⟩
theorem snd7 : Snd false [7] := by
  refine ⟨by decide, fun i => ?_, (fun h => (by cases h)), fun _ => by decide⟩
  rcases i with _ | i
  · decide
  · have : limb [7] (i + 1) = 0 := limb_out (by simp)
    omega
set_option maxRecDepth 100000 in
set_option maxHeartbeats 2000000 in
/-- A small integer's value. -/
theorem linteger_small (m : Value) (ng : Bool) (sv : Value) (rs : List Nat) (k : Int) (w : World) (hs : Sl .u32 w sv rs) (hsn : Snd ng rs) (hv : val rs ≤ most ng) (hk : ival ng rs = k) (h1 : -1000000000000000000 < k) (h2 : k < 1000000000000000000) :
    Calls Tryz.prog 53 #[.agg #[m], .agg #[.bool ng, sv]] w fun e w' => e = .returned (.tuple #[.agg #[.int .i64 4, .int .i64 k], .int .i64 0]) ∧ Below w.heap.size w w' := by
  obtain ⟨_, ao, cap, rfl, _, _⟩ := id hs
  have HB1 := Lib.hid (below3 w (.cells #[m] 74) (.cells #[.bool ng, .slice ao rs.length cap] 24) (.cells #[.int .i64 0, .int .i64 0] 29))
  have HN := Lib.hid (@newsT w (.cells #[m] 74) (.cells #[.bool ng, .slice ao rs.length cap] 24) (.cells #[.int .i64 0, .int .i64 0] 29))
  have HS := Lib.hid (hs.below HB1.out)
  have HSN := Lib.hid (And.intro hsn (And.intro hv (And.intro hk (And.intro h1 h2))))
  clear hs hsn hv hk h1 h2
  go_enter Tryz.func53, Tryz.ntmps53
  go_upto_region 1 with fail
  generalize ((w.alloc (.cells #[m] 74)).alloc (.cells #[.bool ng, .slice ao rs.length cap] 24)).alloc (.cells #[.int .i64 0, .int .i64 0] 29) = w1 at *
  obtain ⟨p0, p1, _⟩ := row2 HN.out.2.1
  go_wp2_with fail
  refine (lsmall_any ng _ rs w1 HS.out HSN.out.1.2.1.wide).mono ?_
  rintro e w2 ⟨k2, ok, rfl, hb2, hor⟩
  obtain ⟨rfl, rfl⟩ : ok = true ∧ k2 = k := by
    rcases hor with ⟨h, _, _, h2⟩ | ⟨_, _, h⟩
    · exact ⟨h, h2.trans HSN.out.2.2.1⟩
    · exact absurd ⟨HSN.out.1, HSN.out.2.1⟩ h
  rw [decide_eq_true HSN.out.2.2.2.1, decide_eq_true HSN.out.2.2.2.2]
  have HB2 := Lib.hid (HB1.out.trans (hb2.mono HB1.out.size))
  have HN2 := Lib.hid ((hb2.block _ (Array.getElem?_eq_some_iff.1 HN.out.2.2).1).trans HN.out.2.2)
  clear hb2 hor p0 p1 HN
  go_wp2_with fail
  refine (lfix_any k2 w2).mono ?_
  rintro e w3 ⟨rfl, hb3⟩
  have HB3 := Lib.hid (HB2.out.trans (hb3.mono HB2.out.size))
  have HN3 := Lib.hid ((hb3.block _ (Array.getElem?_eq_some_iff.1 HN2.out).1).trans HN2.out)
  clear hb3
  obtain ⟨r0, r1, z0, z1⟩ := row2 HN3.out
  go_wp2_with fail
  have hx := put2n HN3.out (.int .i64 4) (.int .i64 k2)
  clear r0 r1 z0 z1
  obtain ⟨r0, r1, _⟩ := row2 hx
  refine bodyPost_ret (v := .tuple #[.agg #[.int .i64 4, .int .i64 k2], .int .i64 0]) (by simp [results, Tryz.results53, go_sem, r0, r1]) rfl ⟨rfl, (HB3.out.setCell (by simp; try omega) _).setCell (by simp; try omega) _⟩
set_option maxRecDepth 100000 in
set_option maxHeartbeats 2000000 in
theorem lvalue_small (m : Value) (ng : Bool) (sv : Value) (rs : List Nat) (k : Int) (w : World) (hs : Sl .u32 w sv rs) (hsn : Snd ng rs) (hv : val rs ≤ most ng) (hk : ival ng rs = k) (h1 : -1000000000000000000 < k) (h2 : k < 1000000000000000000) (hm : ∃ p, m = .pointer p) :
    Calls Tryz.prog 49 #[.agg #[m], .agg #[.int .i64 7, .string ⟨#[]⟩, .bool ng, sv, .slice none 0 0, .int .i64 0]] w fun e w' => e = .returned (.tuple #[.agg #[.int .i64 4, .int .i64 k], .int .i64 0]) ∧ Below w.heap.size w w' := by
  obtain ⟨_, ao, cap, rfl, _, _⟩ := id hs
  obtain ⟨p, rfl⟩ := hm
  have HB1 := Lib.hid (below3 w (.cells #[.pointer p] 74) (.cells #[.int .i64 7, .string ⟨#[]⟩, .bool ng, .slice ao rs.length cap, .slice none 0 0, .int .i64 0] 27) (.cells #[.int .i64 0, .int .i64 0] 29))
  have HN := Lib.hid (@newsT w (.cells #[.pointer p] 74) (.cells #[.int .i64 7, .string ⟨#[]⟩, .bool ng, .slice ao rs.length cap, .slice none 0 0, .int .i64 0] 27) (.cells #[.int .i64 0, .int .i64 0] 29))
  have HC := Lib.hid (linteger_small (.pointer p) ng (.slice ao rs.length cap) rs k)
  have HS := Lib.hid (hs.below HB1.out)
  have HSN := Lib.hid (And.intro hsn (And.intro hv (And.intro hk (And.intro h1 h2))))
  clear hs hsn hv hk h1 h2
  go_enter Tryz.func49, Tryz.ntmps49
  go_upto_region 1 with fail
  generalize ((w.alloc (.cells #[.pointer p] 74)).alloc (.cells #[.int .i64 7, .string ⟨#[]⟩, .bool ng, .slice ao rs.length cap, .slice none 0 0, .int .i64 0] 27)).alloc (.cells #[.int .i64 0, .int .i64 0] 29) = w1 at *
  obtain ⟨⟨p0, p1, p2, p3, p4, p5⟩, _⟩ := row6n HN.out.2.1
  have y0 := cell_heap HN.out.1 0
  go_wp2_with fail
  refine (HC.out w1 HS.out HSN.out.1 HSN.out.2.1 HSN.out.2.2.1 HSN.out.2.2.2.1 HSN.out.2.2.2.2).mono ?_
  rintro e w3 ⟨rfl, hb3⟩
  have HB3 := Lib.hid (HB1.out.trans (hb3.mono HB1.out.size))
  have HN3 := Lib.hid ((hb3.block _ (Array.getElem?_eq_some_iff.1 HN.out.2.2).1).trans HN.out.2.2)
  clear hb3 p0 p1 p2 p3 p4 p5 y0
  obtain ⟨r0, r1, z0, z1⟩ := row2 HN3.out
  go_wp2_with fail
  have hx := put2n HN3.out (.int .i64 4) (.int .i64 k)
  clear r0 r1 z0 z1
  obtain ⟨r0, r1, _⟩ := row2 hx
  refine bodyPost_ret (v := .tuple #[.agg #[.int .i64 4, .int .i64 k], .int .i64 0]) (by simp [results, Tryz.results49, go_sem, r0, r1]) rfl ⟨rfl, (HB3.out.setCell (by simp; try omega) _).setCell (by simp; try omega) _⟩
set_option maxRecDepth 100000 in
set_option maxHeartbeats 2000000 in
/-- A small integer goes down. -/
theorem ldown_small (g : Nat) (ng : Bool) (sv : Value) (rs : List Nat) (k : Int) (w : World) (hs : Sl .u32 w sv rs) (hsn : Snd ng rs) (hv : val rs ≤ most ng) (hk : ival ng rs = k) (h1 : -1000000000000000000 < k) (h2 : k < 1000000000000000000) :
    Calls Tryz.prog 11 #[.pointer (some ⟨g, 0, none⟩), .agg #[.int .i64 7, .string ⟨#[]⟩, .bool ng, sv, .slice none 0 0, .int .i64 0]] w fun e w' => e = .returned (.tuple #[.agg #[.int .i64 4, .int .i64 k], .int .i64 0]) ∧ Below w.heap.size w w' := by
  obtain ⟨_, ao, cap, rfl, _, _⟩ := id hs
  have HB1 := Lib.hid (below2 w (.cells #[.int .i64 7, .string ⟨#[]⟩, .bool ng, .slice ao rs.length cap, .slice none 0 0, .int .i64 0] 27) (.cells #[.int .i64 0, .int .i64 0] 29))
  have HN := Lib.hid (@newsA w (.cells #[.int .i64 7, .string ⟨#[]⟩, .bool ng, .slice ao rs.length cap, .slice none 0 0, .int .i64 0] 27) (.cells #[.int .i64 0, .int .i64 0] 29))
  have HS := Lib.hid (hs.below HB1.out)
  have HSN := Lib.hid (And.intro hsn (And.intro hv (And.intro hk (And.intro h1 h2))))
  clear hs hsn hv hk h1 h2
  go_enter Tryz.func11, Tryz.ntmps11
  go_upto_region 1 with fail
  generalize (w.alloc (.cells #[.int .i64 7, .string ⟨#[]⟩, .bool ng, .slice ao rs.length cap, .slice none 0 0, .int .i64 0] 27)).alloc (.cells #[.int .i64 0, .int .i64 0] 29) = w1 at *
  obtain ⟨⟨p0, p1, p2, p3, p4, p5⟩, _⟩ := row6n HN.out.1
  go_wp2_with fail
  refine (rdsnd_int ng _ rs w1 HS.out HSN.out.1).mono ?_
  rintro e w2 ⟨rfl, hb2⟩
  have HB2 := Lib.hid (HB1.out.trans (hb2.mono HB1.out.size))
  have HD2 := Lib.hid ((hb2.block _ (Array.getElem?_eq_some_iff.1 HN.out.1).1).trans HN.out.1)
  have HN2 := Lib.hid ((hb2.block _ (Array.getElem?_eq_some_iff.1 HN.out.2).1).trans HN.out.2)
  have HS2 := Lib.hid (HS.out.below hb2)
  clear hb2 p0 p1 p2 p3 p4 p5 HN HS
  obtain ⟨⟨p0, p1, p2, p3, p4, p5⟩, _⟩ := row6n HD2.out
  go_wp2_with fail
  refine (lstrange_int ng _ w2).mono ?_
  rintro e w3 ⟨rfl, hb3⟩
  have HB3 := Lib.hid (HB2.out.trans (hb3.mono HB2.out.size))
  have HD3 := Lib.hid ((hb3.block _ (Array.getElem?_eq_some_iff.1 HD2.out).1).trans HD2.out)
  have HN3 := Lib.hid ((hb3.block _ (Array.getElem?_eq_some_iff.1 HN2.out).1).trans HN2.out)
  have HS3 := Lib.hid (HS2.out.below hb3)
  clear hb3 p0 p1 p2 p3 p4 p5 HN2 HD2 HS2
  obtain ⟨⟨p0, p1, p2, p3, p4, p5⟩, _⟩ := row6n HD3.out
  go_wp2_with fail
  refine (lvalue_small _ ng _ rs k w3 HS3.out HSN.out.1 HSN.out.2.1 HSN.out.2.2.1 HSN.out.2.2.2.1 HSN.out.2.2.2.2 ⟨_, rfl⟩).mono ?_
  rintro e w4 ⟨rfl, hb4⟩
  have HB4 := Lib.hid (HB3.out.trans (hb4.mono HB3.out.size))
  have HN4 := Lib.hid ((hb4.block _ (Array.getElem?_eq_some_iff.1 HN3.out).1).trans HN3.out)
  clear hb4 p0 p1 p2 p3 p4 p5
  obtain ⟨r0, r1, z0, z1⟩ := row2 HN4.out
  go_wp2_with fail
  have hx := put2n HN4.out (.int .i64 4) (.int .i64 k)
  clear r0 r1 z0 z1
  obtain ⟨r0, r1, _⟩ := row2 hx
  refine bodyPost_ret (v := .tuple #[.agg #[.int .i64 4, .int .i64 k], .int .i64 0]) (by simp [results, Tryz.results11, go_sem, r0, r1]) rfl ⟨rfl, (HB4.out.setCell (by simp) _).setCell (by simp) _⟩
end Go.Proofs.YtocladhggcaokaaGreatDoor
