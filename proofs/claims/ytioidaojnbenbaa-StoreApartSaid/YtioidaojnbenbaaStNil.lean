/- A nil store refuses; a symbol that is none has no name. -/
import Derived.Test.YtioidaojnbenbaaStLaw
import Derived.Test.YtioidaojnbenbaaStUnw
namespace Go.Proofs.Ytioidaojnbenbaa
open Go.RowKit

set_option maxRecDepth 100000 in
theorem nsound_any (v : Int × Int) (hv : v.1 = 7) (w : World) : Calls Try.prog 11 #[.pointer none, .agg #[.int .i64 v.1, .int .i64 v.2]] w fun e w' => e = .returned (.bool false) ∧ Below w.heap.size w w' := by
  obtain ⟨t, n⟩ := v
  simp only at hv
  subst hv
  have HB1 := Lib.hid (below1 w (.cells #[.int .i64 7, .int .i64 n] 35))
  obtain ⟨p0, p1, z0, z1⟩ := row2 (box1 w #[.int .i64 7, .int .i64 n] 35)
  go_enter Try.func11, Try.ntmps11
  go_wp2_with fail
  go_ret
  exact ⟨rfl, HB1.out⟩
set_option maxRecDepth 100000 in
theorem nfind_any (v : Int × Int) (hv : v.1 = 7) (w : World) : Calls Try.prog 53 #[.pointer none, .agg #[.int .i64 v.1, .int .i64 v.2]] w fun e w' => e = .returned (.pointer none) ∧ Below w.heap.size w w' := by
  obtain ⟨t, n⟩ := v
  simp only at hv
  subst hv
  have HB1 := Lib.hid (below1 w (.cells #[.int .i64 7, .int .i64 n] 35))
  obtain ⟨p0, p1, z0, z1⟩ := row2 (box1 w #[.int .i64 7, .int .i64 n] 35)
  go_enter Try.func53, Try.ntmps53
  go_wp2_with fail
  refine (nsound_any (7, n) rfl _).mono ?_
  rintro e w1 ⟨rfl, hb1⟩
  have HB2 := Lib.hid (HB1.out.trans (hb1.mono HB1.out.size))
  clear hb1
  go_wp2_with fail
  go_ret
  exact ⟨rfl, HB2.out⟩
set_option maxRecDepth 100000 in
theorem nkind_any (v : Int × Int) (hv : v.1 = 7) (w : World) : Calls Try.prog 22 #[.pointer none, .agg #[.int .i64 v.1, .int .i64 v.2]] w fun e w' => e = .returned (.int .i64 0) ∧ Below w.heap.size w w' := by
  obtain ⟨t, n⟩ := v
  simp only at hv
  subst hv
  have HB1 := Lib.hid (below1 w (.cells #[.int .i64 7, .int .i64 n] 35))
  obtain ⟨p0, p1, z0, z1⟩ := row2 (box1 w #[.int .i64 7, .int .i64 n] 35)
  go_enter Try.func22, Try.ntmps22
  go_wp2_with fail
  refine (nfind_any (7, n) rfl _).mono ?_
  rintro e w1 ⟨rfl, hb1⟩
  have HB2 := Lib.hid (HB1.out.trans (hb1.mono HB1.out.size))
  clear hb1
  go_wp2_with fail
  go_ret
  exact ⟨rfl, HB2.out⟩
set_option maxRecDepth 100000 in
theorem nlen_any (v : Int × Int) (hv : v.1 = 7) (w : World) : Calls Try.prog 23 #[.pointer none, .agg #[.int .i64 v.1, .int .i64 v.2]] w fun e w' => e = .returned (.int .i64 0) ∧ Below w.heap.size w w' := by
  obtain ⟨t, n⟩ := v
  simp only at hv
  subst hv
  have HB1 := Lib.hid (below1 w (.cells #[.int .i64 7, .int .i64 n] 35))
  obtain ⟨p0, p1, z0, z1⟩ := row2 (box1 w #[.int .i64 7, .int .i64 n] 35)
  go_enter Try.func23, Try.ntmps23
  go_wp2_with fail
  refine (nfind_any (7, n) rfl _).mono ?_
  rintro e w1 ⟨rfl, hb1⟩
  have HB2 := Lib.hid (HB1.out.trans (hb1.mono HB1.out.size))
  clear hb1
  go_wp2_with fail
  go_ret
  exact ⟨rfl, HB2.out⟩
set_option maxRecDepth 100000 in
theorem nused_any (w : World) : Calls Try.prog 21 #[.pointer none] w fun e w' => e = .returned (.int .i64 0) ∧ Below w.heap.size w w' := by
  go_enter Try.func21, Try.ntmps21
  go_wp2_with fail
  go_ret
  exact ⟨rfl, Below.refl _ _⟩
set_option maxRecDepth 100000 in
theorem ncopy_any (w : World) : Calls Try.prog 8 #[.pointer none] w fun e w' => e = .returned (.pointer none) ∧ Below w.heap.size w w' := by
  go_enter Try.func8, Try.ntmps8
  go_wp2_with fail
  go_ret
  exact ⟨rfl, Below.refl _ _⟩
set_option maxRecDepth 100000 in
theorem ncollect_any (w : World) : Calls Try.prog 20 #[.pointer none, .slice none 0 0] w fun e w' => e = .returned (.tuple #[.slice none 0 0, .int .i64 1]) ∧ Below w.heap.size w w' := by
  go_enter Try.func20, Try.ntmps20
  go_wp2_with fail
  refine bodyPost_ret (v := .tuple #[.slice none 0 0, .int .i64 1]) (by simp [results, Try.results20, go_sem]) rfl ⟨rfl, Below.refl _ _⟩
set_option maxRecDepth 100000 in
theorem nmake_any (w : World) : Calls Try.prog 13 #[.pointer none, .int .i64 2, .slice none 0 0] w fun e w' => e = .returned (.tuple #[.agg #[.int .i64 0, .int .i64 0], .int .i64 1]) ∧ Below w.heap.size w w' := by
  have HB1 := Lib.hid (below1 w (.cells #[.int .i64 0, .int .i64 0] 35))
  obtain ⟨p0, p1, z0, z1⟩ := row2 (box1 w #[.int .i64 0, .int .i64 0] 35)
  go_enter Try.func13, Try.ntmps13
  go_wp2_with fail
  refine bodyPost_ret (v := .tuple #[.agg #[.int .i64 0, .int .i64 0], .int .i64 1]) (by simp [results, Try.results13, go_sem, p0, p1]) rfl ⟨rfl, ?_⟩
  first | exact HB1.out | exact (HB1.out.setCell (by simp) _).setCell (by simp) _
set_option maxRecDepth 100000 in
theorem nsymbol_any (w : World) : Calls Try.prog 16 #[.pointer none, .string ⟨#[97]⟩] w fun e w' => e = .returned (.tuple #[.agg #[.int .i64 0, .int .i64 0], .int .i64 1]) ∧ Below w.heap.size w w' := by
  have HB1 := Lib.hid (below1 w (.cells #[.int .i64 0, .int .i64 0] 35))
  obtain ⟨p0, p1, z0, z1⟩ := row2 (box1 w #[.int .i64 0, .int .i64 0] 35)
  go_enter Try.func16, Try.ntmps16
  go_wp2_with fail
  refine bodyPost_ret (v := .tuple #[.agg #[.int .i64 0, .int .i64 0], .int .i64 1]) (by simp [results, Try.results16, go_sem, p0, p1]) rfl ⟨rfl, ?_⟩
  first | exact HB1.out | exact (HB1.out.setCell (by simp) _).setCell (by simp) _
set_option maxRecDepth 100000 in
theorem nslot_any (v : Int × Int) (w : World) : Calls Try.prog 50 #[.pointer none, .agg #[.int .i64 v.1, .int .i64 v.2], .int .i64 0] w fun e w' => e = .returned (.tuple #[.pointer none, .int .i64 1]) ∧ Below w.heap.size w w' := by
  have HB1 := Lib.hid (below1 w (.cells #[.int .i64 v.1, .int .i64 v.2] 35))
  obtain ⟨p0, p1, z0, z1⟩ := row2 (box1 w #[.int .i64 v.1, .int .i64 v.2] 35)
  go_enter Try.func50, Try.ntmps50
  go_wp2_with fail
  refine bodyPost_ret (v := .tuple #[.pointer none, .int .i64 1]) (by simp [results, Try.results50, go_sem]) rfl ⟨rfl, HB1.out⟩
set_option maxRecDepth 100000 in
theorem nget_any (v : Int × Int) (w : World) : Calls Try.prog 17 #[.pointer none, .agg #[.int .i64 v.1, .int .i64 v.2], .int .i64 0] w fun e w' => e = .returned (.tuple #[.agg #[.int .i64 0, .int .i64 0], .int .i64 1]) ∧ Below w.heap.size w w' := by
  have HB1 := Lib.hid (below2 w (.cells #[.int .i64 v.1, .int .i64 v.2] 35) (.cells #[.int .i64 0, .int .i64 0] 35))
  have HN1 := Lib.hid (@news2v w (.cells #[.int .i64 v.1, .int .i64 v.2] 35) (.cells #[.int .i64 0, .int .i64 0] 35))
  have HN2 := Lib.hid (@news2u w (.cells #[.int .i64 v.1, .int .i64 v.2] 35) (.cells #[.int .i64 0, .int .i64 0] 35))
  go_enter Try.func17, Try.ntmps17
  go_upto_region 1 with fail
  generalize (w.alloc (.cells #[.int .i64 v.1, .int .i64 v.2] 35)).alloc (.cells #[.int .i64 0, .int .i64 0] 35) = w1 at *
  obtain ⟨p0, p1, z0, z1⟩ := row2 HN1.out
  go_wp2_with fail
  refine (nslot_any v _).mono ?_
  rintro e w2 ⟨rfl, hb2⟩
  have HB2 := Lib.hid (HB1.out.trans (hb2.mono HB1.out.size))
  have X2 := Lib.hid ((hb2.block _ (Array.getElem?_eq_some_iff.1 HN2.out).1).trans HN2.out)
  clear hb2 p0 p1 z0 z1
  obtain ⟨p0, p1, z0, z1⟩ := row2 X2.out
  go_wp2_with fail
  refine bodyPost_ret (v := .tuple #[.agg #[.int .i64 0, .int .i64 0], .int .i64 1]) (by simp [results, Try.results17, go_sem, p0, p1]) rfl ⟨rfl, ?_⟩
  first | exact HB2.out | exact (HB2.out.setCell (by simp) _).setCell (by simp) _
set_option maxRecDepth 100000 in
theorem nset_any (v x : Int × Int) (w : World) : Calls Try.prog 15 #[.pointer none, .agg #[.int .i64 v.1, .int .i64 v.2], .int .i64 0, .agg #[.int .i64 x.1, .int .i64 x.2]] w fun e w' => e = .returned (.int .i64 1) ∧ Below w.heap.size w w' := by
  have HB1 := Lib.hid (below2 w (.cells #[.int .i64 v.1, .int .i64 v.2] 35) (.cells #[.int .i64 x.1, .int .i64 x.2] 35))
  have HN1 := Lib.hid (@news2v w (.cells #[.int .i64 v.1, .int .i64 v.2] 35) (.cells #[.int .i64 x.1, .int .i64 x.2] 35))
  go_enter Try.func15, Try.ntmps15
  go_upto_region 1 with fail
  generalize (w.alloc (.cells #[.int .i64 v.1, .int .i64 v.2] 35)).alloc (.cells #[.int .i64 x.1, .int .i64 x.2] 35) = w1 at *
  obtain ⟨p0, p1, z0, z1⟩ := row2 HN1.out
  go_wp2_with fail
  refine (nslot_any v _).mono ?_
  rintro e w2 ⟨rfl, hb2⟩
  have HB2 := Lib.hid (HB1.out.trans (hb2.mono HB1.out.size))
  clear hb2 p0 p1 z0 z1
  go_wp2_with fail
  go_ret
  exact ⟨rfl, HB2.out⟩
set_option maxRecDepth 100000 in
theorem nwrap_any (w : World) : Calls Try.prog 14 #[.pointer none, .agg #[.int .i64 0, .string ⟨#[]⟩, .bool false, .slice none 0 0, .slice none 0 0, .int .i64 0, .slice none 0 0, .slice none 0 0]] w fun e w' => e = .returned (.tuple #[.agg #[.int .i64 0, .int .i64 0], .int .i64 1]) ∧ Below w.heap.size w w' := by
  have HB1 := Lib.hid (below2 w (.cells #[.int .i64 0, .string ⟨#[]⟩, .bool false, .slice none 0 0, .slice none 0 0, .int .i64 0, .slice none 0 0, .slice none 0 0] 50) (.cells #[.int .i64 0, .int .i64 0] 35))
  have HN2 := Lib.hid (@news2u w (.cells #[.int .i64 0, .string ⟨#[]⟩, .bool false, .slice none 0 0, .slice none 0 0, .int .i64 0, .slice none 0 0, .slice none 0 0] 50) (.cells #[.int .i64 0, .int .i64 0] 35))
  go_enter Try.func14, Try.ntmps14
  go_upto_region 1 with fail
  generalize (w.alloc (.cells #[.int .i64 0, .string ⟨#[]⟩, .bool false, .slice none 0 0, .slice none 0 0, .int .i64 0, .slice none 0 0, .slice none 0 0] 50)).alloc (.cells #[.int .i64 0, .int .i64 0] 35) = w1 at *
  obtain ⟨p0, p1, z0, z1⟩ := row2 HN2.out
  go_wp2_with fail
  refine bodyPost_ret (v := .tuple #[.agg #[.int .i64 0, .int .i64 0], .int .i64 1]) (by simp [results, Try.results14, go_sem, p0, p1]) rfl ⟨rfl, ?_⟩
  first | exact HB1.out | exact (HB1.out.setCell (by simp) _).setCell (by simp) _
set_option maxRecDepth 100000 in
/-- No symbol: no name. -/
theorem stname_bad (g : Nat) (R : Nat → Nat) (s : St) (w : World) (h : StW w g R s) (hs : s.ns = []) :
    Calls Try.prog 18 #[.pointer (some ⟨g, 0, none⟩), .agg #[.int .i64 6, .int .i64 0]] w fun e w' => e = .returned (.tuple #[.string ⟨#[]⟩, .int .i64 10]) ∧ Below w.heap.size w w' := by
  have HS := Lib.hid h
  have hq : sdV s.os.length s.ns.length (6, 0) = false := by rw [hs]; rfl
  have HB1 := Lib.hid (below1 w (.cells #[.int .i64 6, .int .i64 0] 35))
  obtain ⟨p0, p1, z0, z1⟩ := row2 (box1 w #[.int .i64 6, .int .i64 0] 35)
  clear h hs
  go_enter Try.func18, Try.ntmps18
  go_wp2_with fail
  refine (stsound_any g R s (6, 0) _ (HS.out.below HB1.out)).mono ?_
  rintro e w1 ⟨rfl, hb1⟩
  rw [hq]
  have HB2 := Lib.hid (HB1.out.trans (hb1.mono (by simp)))
  clear hb1 hq p0 p1 z0 z1
  go_wp2_with fail
  refine bodyPost_ret (v := .tuple #[.string ⟨#[]⟩, .int .i64 10]) (by simp [results, Try.results18, go_sem]) rfl ⟨rfl, HB2.out⟩
end Go.Proofs.Ytioidaojnbenbaa
