/- The document's answer's Wrap. -/
import Derived.Test.YtioidaojnbenbaaRsWrap
import Derived.Test.YtioidaojnbenbaaStWrap
namespace Go.Proofs.Ytioidaojnbenbaa
open Go.RowKit

theorem wrp_full {s : St} {p : Px} (hp : pxW p = 2) (h : s.L < s.U + 2) : s.wrap p = (((0, 0), 16), s) := by unfold St.wrap; rw [hp, if_pos h]
theorem wrp_ok {s : St} {p : Px} (hp : pxW p = 2) (h : ¬ s.L < s.U + 2) : s.wrap p = (((7, ((s.os.length : Nat) : Int)), 0), s.add ⟨10, 2, [], some p⟩) := by unfold St.wrap; rw [hp, if_neg h]
set_option maxRecDepth 100000 in
set_option maxHeartbeats 4000000 in
theorem rwrap_any (g : Nat) (Q : Nat → Nat) (s : St) (p : Px) (w : World) (h : RsW w g Q s) (hp : pxW p = 2) :
    Calls Try.prog 34 #[.pointer (some ⟨g, 0, none⟩), .agg #[.int .i64 p.k, .string p.t, .bool p.ng, .slice none 0 0, .slice none 0 0, .int .i64 p.a, .slice none 0 0, .slice none 0 0]] w fun e w' => e = .returned (.tuple #[.agg #[.int .i64 (s.wrap p).1.1.1, .int .i64 (s.wrap p).1.1.2], .int .i64 (s.wrap p).1.2]) ∧ RsP w g Q (s.wrap p).2 w' := by
  have HS := Lib.hid h
  have HP := Lib.hid hp
  have hQz : ∀ b, w.heap.size ≤ b → Q b = 0 := fun b hb => Classical.byContradiction fun hn => by have := h.lt b hn; omega
  have HQW := Lib.hid hQz
  clear h hp hQz
  have HB1 := Lib.hid (below2 w (.cells #[.int .i64 p.k, .string p.t, .bool p.ng, .slice none 0 0, .slice none 0 0, .int .i64 p.a, .slice none 0 0, .slice none 0 0] 50) (.cells #[.int .i64 0, .int .i64 0] 35))
  have HN1 := Lib.hid (@news2' w (.cells #[.int .i64 p.k, .string p.t, .bool p.ng, .slice none 0 0, .slice none 0 0, .int .i64 p.a, .slice none 0 0, .slice none 0 0] 50) (.cells #[.int .i64 0, .int .i64 0] 35))
  go_enter Try.func34, Try.ntmps34
  go_upto_region 1 with fail
  generalize (w.alloc (.cells #[.int .i64 p.k, .string p.t, .bool p.ng, .slice none 0 0, .slice none 0 0, .int .i64 p.a, .slice none 0 0, .slice none 0 0] 50)).alloc (.cells #[.int .i64 0, .int .i64 0] 35) = w1 at *
  obtain ⟨c0, c1, c2, c3, c4, c5, c6, c7⟩ := row8 HN1.out.1
  obtain ⟨ms, ov, nv, hm⟩ := HS.out.below HB1.out
  have HM := Lib.hid hm
  have HSZ : Hid (w.heap.size + 1 < w1.heap.size) := Lib.hid (Array.getElem?_eq_some_iff.1 HN1.out.2).1
  clear hm
  go_wp2_with fail
  refine (rputx_any g Q s ms ov nv ⟨⟨10, 2, [], some p⟩, .slice none 0 0⟩ p w1 HM.out (World.ownsRow_nil _ _ _ _) (fun b hb => by cases hb) rfl rfl rfl rfl (by simp) rfl).mono ?_
  rintro e w8 (⟨hfull, rfl, hb8⟩ | ⟨hroom, rfl, hfr8, Q', hrs8, hq1, hq2⟩)
  · have HM2 := Lib.hid (wrp_full HP.out hfull)
    have HB8 := Lib.hid (HB1.out.trans (hb8.mono HB1.out.size))
    have HX8 := Lib.hid ((hb8.block _ (Array.getElem?_eq_some_iff.1 HN1.out.2).1).trans HN1.out.2)
    clear hfull hb8 c0 c1 c2 c3 c4 c5 c6 c7
    obtain ⟨r0, r1, rz0, rz1⟩ := row2 HX8.out
    go_wp2_with fail
    have hx := put2 HX8.out (.int .i64 0) (.int .i64 0)
    obtain ⟨r0, r1, _⟩ := row2 hx
    refine bodyPost_ret (v := .tuple #[.agg #[.int .i64 0, .int .i64 0], .int .i64 16]) (by simp [results, Try.results34, go_sem, r0, r1]) rfl ?_
    rw [HM2.out]
    exact ⟨rfl, .of_below HS.out ((HB8.out.setCell (by simp) _).setCell (by simp) _)⟩
  · have hroom2 : s.U + 2 ≤ s.L := hroom
    have HM2 := Lib.hid (wrp_ok HP.out (show ¬ s.L < s.U + 2 by omega))
    have hz1 := HQW.out (w.heap.size + 1) (by omega)
    have HX8 := Lib.hid ((hfr8.blk (w.heap.size + 1) HSZ.out hz1).trans HN1.out.2)
    have hq0 : Q' (w.heap.size + 1) = 0 := Classical.byContradiction fun hn => by
      rcases hq2 _ hn with h | h | h
      · exact h hz1
      · cases h
      · have := HSZ.out; omega
    have HQ0 := Lib.hid hq0
    have HRS := Lib.hid hrs8
    have HFR := Lib.hid ((Fr.of_below HB1.out).tr hfr8)
    have HQI : Hid (∀ b, b < w.heap.size → (Q' b = 0 ↔ Q b = 0)) := Lib.hid fun b hb => ⟨fun h0 => Classical.byContradiction fun hn => by have := hq1 b hn; omega, fun h0 => Classical.byContradiction fun hn => by
      rcases hq2 b hn with h | h | h
      · exact h h0
      · cases h
      · have := HSZ.out; omega⟩
    clear hroom hroom2 hfr8 hrs8 hq1 hq2 hq0 hz1 c0 c1 c2 c3 c4 c5 c6 c7
    obtain ⟨r0, r1, rz0, rz1⟩ := row2 HX8.out
    go_wp2_with fail
    have hx := put2 HX8.out (.int .i64 7) (.int .i64 ((s.os.length : Nat) : Int))
    obtain ⟨r0, r1, _⟩ := row2 hx
    refine bodyPost_ret (v := .tuple #[.agg #[.int .i64 7, .int .i64 ((s.os.length : Nat) : Int)], .int .i64 0]) (by simp [results, Try.results34, go_sem, r0, r1]) rfl ?_
    rw [HM2.out]
    refine ⟨rfl, Q', HRS.out.keep (((Keeps.refl (fun b => Q' b ≠ 0) _).set (p := ⟨w.heap.size + 1, 0, none⟩) (fun h => h HQ0.out) _).set (p := ⟨w.heap.size + 1, 1, none⟩) (fun h => h HQ0.out) _), ?_, HQI.out⟩
    exact (HFR.out.set (p := ⟨w.heap.size + 1, 0, none⟩) (.inl (by simp)) _).set (p := ⟨w.heap.size + 1, 1, none⟩) (.inl (by simp)) _
end Go.Proofs.Ytioidaojnbenbaa
