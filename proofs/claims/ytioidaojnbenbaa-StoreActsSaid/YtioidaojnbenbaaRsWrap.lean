/- The document's answer's list: Wrap of a piece with a text alone. -/
import Derived.Test.YtioidaojnbenbaaRsPut
namespace Go.Proofs.Ytioidaojnbenbaa
open Go.RowKit

set_option maxRecDepth 100000 in
theorem rpieces_any (p : Px) (w : World) :
    Calls Try.prog 68 #[.agg #[.int .i64 p.k, .string p.t, .bool p.ng, .slice none 0 0, .slice none 0 0, .int .i64 p.a, .slice none 0 0, .slice none 0 0]] w fun e w' => e = .returned (.int .i64 1) ∧ Below w.heap.size w w' := by
  have HB1 := Lib.hid (below1 w (.cells #[.int .i64 p.k, .string p.t, .bool p.ng, .slice none 0 0, .slice none 0 0, .int .i64 p.a, .slice none 0 0, .slice none 0 0] 50))
  go_enter Try.func68, Try.ntmps68
  go_wp2_with fail
  refine wp_loop_rounds 1 ?_
  rw [rounds_succ]
  go_wp2_with fail
  go_ret
  exact ⟨rfl, HB1.out⟩
set_option maxRecDepth 100000 in
theorem rcellsx_any (k : Int) (so : Option Addr) (n sc : Nat) (p : Px) (w : World) (hk : k = 10) :
    Calls Try.prog 66 #[.agg #[.int .i64 k, .slice so n sc, .int .i64 p.k, .string p.t, .bool p.ng, .slice none 0 0, .slice none 0 0, .int .i64 p.a, .slice none 0 0, .slice none 0 0]] w fun e w' => e = .returned (.int .i64 ((2 : Nat) : Int)) ∧ Below w.heap.size w w' := by
  subst hk
  have HB1 := Lib.hid (below1 w (.cells #[.int .i64 10, .slice so n sc, .int .i64 p.k, .string p.t, .bool p.ng, .slice none 0 0, .slice none 0 0, .int .i64 p.a, .slice none 0 0, .slice none 0 0] 83))
  go_enter Try.func66, Try.ntmps66
  go_wp2_with fail
  refine (rpieces_any p _).mono ?_
  rintro e w2 ⟨rfl, hb2⟩
  have HB2 := Lib.hid (HB1.out.trans (hb2.mono HB1.out.size))
  clear hb2
  go_wp2_with fail
  go_ret
  exact ⟨rfl, HB2.out⟩

set_option maxRecDepth 100000 in
set_option maxHeartbeats 4000000 in
theorem rputx_any (g : Nat) (Q : Nat → Nat) (s : St) (ms : List RO) (ov nv : Value) (m : RO) (p : Px) (w : World) (h : RsM w g Q s ms ov nv) (hs : w.ownsRow 0 35 2 m.sv m.o.s.length (vcs m.o.s)) (hsQ : ∀ b, m.sv.ownBlock = some b → Q b = 0) (hx : m.o.x = some p) (hc : m.o.c = 2) (hk10 : m.o.k = 10) (hl0 : m.o.s.length = 0) (hln : m.o.s.length ≤ 2000000) (hsn : m.o.s.all (sdV s.os.length s.ns.length) = true) :
    Calls Try.prog 58 #[.pointer (some ⟨g, 0, none⟩), .agg (roL m).toArray] w fun e w' =>
      (s.L < s.U + m.o.c ∧ e = .returned (.tuple #[.agg #[.int .i64 0, .int .i64 0], .int .i64 16]) ∧ Below w.heap.size w w') ∨
      (s.U + m.o.c ≤ s.L ∧ e = .returned (.tuple #[.agg #[.int .i64 7, .int .i64 ((s.os.length : Nat) : Int)], .int .i64 0]) ∧ Fr Q w w' ∧ ∃ Q', RsW w' g Q' (s.add m.o) ∧ (∀ b, Q b ≠ 0 → Q' b = Q b) ∧ ∀ b, Q' b ≠ 0 → Q b ≠ 0 ∨ m.sv.ownBlock = some b ∨ w.heap.size ≤ b) := by
  obtain ⟨i0, hi, hz0, hz1, hz2⟩ := info_parts infoRObj
  have HI := Lib.hid (And.intro hi (And.intro hz0 (And.intro hz1 hz2)))
  clear hi hz0 hz1 hz2
  obtain ⟨so, sc, hsv⟩ := own_dslice hs
  obtain ⟨ao, cap, hov⟩ := own_dslice h.orow
  subst hov
  have hro : roL m = [.int .i64 m.o.k, .slice so m.o.s.length sc, .int .i64 p.k, .string p.t, .bool p.ng, .slice none 0 0, .slice none 0 0, .int .i64 p.a, .slice none 0 0, .slice none 0 0] := by unfold roL; rw [hsv, hx]; rfl
  obtain ⟨k, hk⟩ : ∃ k, k = m.o.k := ⟨_, rfl⟩
  obtain ⟨n, hn⟩ : ∃ n, n = m.o.s.length := ⟨_, rfl⟩
  rw [hro]
  rw [← hk, ← hn] at hro
  rw [← hk, ← hn]
  rw [← hn] at hsv hln
  have HLEN := Lib.hid h.len
  have HRO := Lib.hid hro
  have HSV := Lib.hid hsv
  have HM := Lib.hid h
  have HSR := Lib.hid hs
  have HSQ := Lib.hid hsQ
  have HC := Lib.hid hc
  have HSN := Lib.hid hsn
  have HNN := Lib.hid hn
  have HK10 : Hid (k = 10) := Lib.hid (by rw [hk]; exact hk10)
  have HL0 := Lib.hid hl0
  clear hl0
  have hUL := h.ok.UL
  have hLM := h.ok.LM
  have hosl := h.ok.len
  have hml : ms.length ≤ 1048576 := by rw [← h.len]; exact hosl
  have hb1 := below2 w (.cells #[.int .i64 k, .slice so n sc, .int .i64 p.k, .string p.t, .bool p.ng, .slice none 0 0, .slice none 0 0, .int .i64 p.a, .slice none 0 0, .slice none 0 0] 83) (.cells #[.int .i64 0, .int .i64 0] 35)
  obtain ⟨n0, n1⟩ := @rnews2 w (.cells #[.int .i64 k, .slice so n sc, .int .i64 p.k, .string p.t, .bool p.ng, .slice none 0 0, .slice none 0 0, .int .i64 p.a, .slice none 0 0, .slice none 0 0] 83) (.cells #[.int .i64 0, .int .i64 0] 35)
  have HB1 := Lib.hid hb1
  have HN0 := Lib.hid n0
  have HN1 := Lib.hid n1
  have HOB : Hid (∀ b, (Value.slice ao ms.length cap).ownBlock = some b → b < w.heap.size ∧ b ≠ g) := Lib.hid fun b hb => ⟨(h.orow.lt b hb).2, fun e => by have := h.oQ b hb; have := h.gQ; rw [e] at *; omega⟩
  have HGL := Lib.hid h.glt
  clear h hs hsQ hx hc hk10 hsn hsv hro hk hn hb1 n0 n1
  go_enter Try.func58, Try.ntmps58
  go_upto_region 1 with fail
  generalize (w.alloc (.cells #[.int .i64 k, .slice so n sc, .int .i64 p.k, .string p.t, .bool p.ng, .slice none 0 0, .slice none 0 0, .int .i64 p.a, .slice none 0 0, .slice none 0 0] 83)).alloc (.cells #[.int .i64 0, .int .i64 0] 35) = w1 at *
  obtain ⟨p0, p1, p2, p3, p4, p5, p6, p7, p8, p9⟩ := row10 HN0.out
  go_wp2_with fail
  refine (rcellsx_any k so n sc p w1 HK10.out).mono ?_
  rintro e w2 ⟨rfl, hb2⟩
  have HB2 := Lib.hid (HB1.out.trans (hb2.mono HB1.out.size))
  have HM0 := Lib.hid ((hb2.block _ (Array.getElem?_eq_some_iff.1 HN0.out).1).trans HN0.out)
  have HM1 := Lib.hid ((hb2.block _ (Array.getElem?_eq_some_iff.1 HN1.out).1).trans HN1.out)
  clear hb2 p0 p1 p2 p3 p4 p5 p6 p7 p8 p9
  have hm2 := HM.out.below HB2.out
  have hbx2 := hm2.box
  obtain ⟨⟨c0, c1, c2, c3⟩, z1, z2, z3⟩ := hm2.boxf
  clear hm2
  have hUs : ((s.U : Nat) : Int) + ((2 : Nat) : Int) = ((s.U + m.o.c : Nat) : Int) := by rw [HC.out]; omega
  have hUl : s.U + m.o.c ≤ 4000000 := by rw [HC.out]; omega
  have HUS := Lib.hid hUs
  have HUL := Lib.hid hUl
  clear hUs hUl
  by_cases hfull : s.L < s.U + 2
  · have hff : ((s.U : Nat) : Int) + ((2 : Nat) : Int) > ((s.L : Nat) : Int) := by omega
    go_upto_region 2 with fail
    go_region
    obtain ⟨r0, r1, rz0, rz1⟩ := row2 HM1.out
    go_wp2_with fail
    have hx := put2 HM1.out (.int .i64 0) (.int .i64 0)
    obtain ⟨r0, r1, _⟩ := row2 hx
    refine bodyPost_ret (v := .tuple #[.agg #[.int .i64 0, .int .i64 0], .int .i64 16]) (by simp [results, Try.results58, go_sem, r0, r1]) rfl (.inl ⟨by rw [HC.out]; exact hfull, rfl, ?_⟩)
    exact (HB2.out.drew.setCell (by simp) _).setCell (by simp) _
  · have hff : ¬ ((s.U : Nat) : Int) + ((2 : Nat) : Int) > ((s.L : Nat) : Int) := by omega
    go_upto_region 2 with fail
    go_region
    clear c0 c1 c2 c3 z1 z2 z3 hbx2
    have HBD := Lib.hid HB2.out.drew
    have HD0 : Hid (w2.drew.heap[w.heap.size]? = _) := Lib.hid HM0.out
    have HD1 : Hid (w2.drew.heap[w.heap.size + 1]? = _) := Lib.hid HM1.out
    generalize w2.drew = w2d at *
    have hm2 := HM.out.below HBD.out
    have hbx2 := hm2.box
    obtain ⟨⟨c0, c1, c2, c3⟩, z1, z2, z3⟩ := hm2.boxf
    clear hm2
    go_upto_region 5 with fail
    have hbx3 : (w2d.setCell ⟨g, 1, none⟩ (.int .i64 (((s.U : Nat) : Int) + 2))).heap[g]? = some (.cells #[.int .i64 (s.L : Nat), .int .i64 (((s.U : Nat) : Int) + 2), .slice ao ms.length cap, nv] 32 (0, 0)) := rowSet (W := w2d) hbx2 1 _
    have hbe : ((s.U : Nat) : Int) + 2 = ((s.U + m.o.c : Nat) : Int) := by have := HUS.out; omega
    have HF3 : Hid (Fr Q w (w2d.setCell ⟨g, 1, none⟩ (.int .i64 (((s.U : Nat) : Int) + 2)))) := Lib.hid ((Fr.of_below HBD.out).set (p := ⟨g, 1, none⟩) (.inr (by show Q g ≠ 0; rw [HM.out.gQ]; omega)) _)
    have HK3 : Hid (Keeps (fun b => b ≠ g) w (w2d.setCell ⟨g, 1, none⟩ (.int .i64 (((s.U : Nat) : Int) + 2)))) := Lib.hid ((Keeps.of_below HBD.out).set (p := ⟨g, 1, none⟩) (fun h => h rfl) _)
    have hpg : w.heap.size ≠ g := by have := HGL.out; omega
    have hpg1 : w.heap.size + 1 ≠ g := by have := HGL.out; omega
    have HX0 := Lib.hid ((Below.heap_setCell w2d ⟨g, 1, none⟩ (.int .i64 (((s.U : Nat) : Int) + 2)) w.heap.size hpg).trans HD0.out)
    have HX1 := Lib.hid ((Below.heap_setCell w2d ⟨g, 1, none⟩ (.int .i64 (((s.U : Nat) : Int) + 2)) (w.heap.size + 1) hpg1).trans HD1.out)
    clear c0 c1 c2 c3 z1 z2 z3 hbx2 hff hpg hpg1
    generalize w2d.setCell ⟨g, 1, none⟩ (.int .i64 (((s.U : Nat) : Int) + 2)) = w3 at *
    rw [hbe] at hbx3
    have HBX := Lib.hid hbx3
    clear hbx3 hbe
    have HRB : Hid (w.heap.size + 1 < w3.heap.size) := Lib.hid (Array.getElem?_eq_some_iff.1 HX1.out).1
    have HPB : Hid (w.heap.size < w3.heap.size) := Lib.hid (Array.getElem?_eq_some_iff.1 HX0.out).1
    have HNB : Hid (∀ b, (Value.slice ao ms.length cap).ownBlock = some b → b ≠ w.heap.size ∧ b ≠ w.heap.size + 1) := Lib.hid fun b hb => by have := (HOB.out b hb).1; omega
    have HOR : Hid (∀ W, Below w3.heap.size w3 W → W.ownsRow 0 83 10 (.slice ao ms.length cap) ms.length (roLs ms)) := Lib.hid fun W hW => ownsRow_keep (ownsRow_keep HM.out.orow HK3.out fun b hb => (HOB.out b hb).2) (Keeps.of_below (P := fun _ => True) hW) fun _ _ => trivial
    have HGB : Hid (∀ W, Below w3.heap.size w3 W → W.heap[g]? = some (.cells #[.int .i64 (s.L : Nat), .int .i64 ((s.U + m.o.c : Nat) : Int), .slice ao ms.length cap, nv] 32 (0, 0)) ∧ some g ≠ (Value.slice ao ms.length cap).ownBlock) := Lib.hid fun W hW => ⟨(hW.block g (Array.getElem?_eq_some_iff.1 HBX.out).1).trans HBX.out, fun e => (HOB.out g e.symm).2 rfl⟩
    generalize hpbd : w.heap.size = pb at *
    have HXV : Hid (∀ W, Below w3.heap.size w3 W → W.cell? ⟨g, 2, none⟩ = some (.slice ao ms.length cap) ∧ W.cell? ⟨pb, 0, none⟩ = some (.int .i64 k) ∧ W.cell? ⟨pb, 1, none⟩ = some (.slice so n sc) ∧ W.cell? ⟨pb, 2, none⟩ = some (.int .i64 p.k) ∧ W.cell? ⟨pb, 3, none⟩ = some (.string p.t) ∧ W.cell? ⟨pb, 4, none⟩ = some (.bool p.ng) ∧ W.cell? ⟨pb, 5, none⟩ = some (.slice none 0 0) ∧ W.cell? ⟨pb, 6, none⟩ = some (.slice none 0 0) ∧ W.cell? ⟨pb, 7, none⟩ = some (.int .i64 p.a) ∧ W.cell? ⟨pb, 8, none⟩ = some (.slice none 0 0) ∧ W.cell? ⟨pb, 9, none⟩ = some (.slice none 0 0)) := Lib.hid fun W hW => ⟨cell_heap (HGB.out W hW).1 2, row10 ((hW.block pb HPB.out).trans HX0.out)⟩
    refine wp_region_vals (fun L vals W => AllV [some (.pointer (some ⟨g, 0, none⟩)), some (.pointer (some ⟨g, 0, none⟩)), some (.pointer (some ⟨g, 0, none⟩)), some (.pointer (some ⟨g, 2, none⟩)), some (.slice ao ms.length cap), some (.agg #[.int .i64 k, .slice so n sc, .int .i64 p.k, .string p.t, .bool p.ng, .slice none 0 0, .slice none 0 0, .int .i64 p.a, .slice none 0 0, .slice none 0 0]), none, none, some (.pointer (some ⟨g, 0, none⟩)), some (.pointer (some ⟨g, 2, none⟩)), none] L vals ∧ Ph 7 10 (fun W => Below w3.heap.size w3 W) (fun v W => PuMid w3 ms m (.slice ao ms.length cap) v W) (fun v W => ∃ W1 W2, PuMid w3 ms m (.slice ao ms.length cap) v W1 ∧ W2 = W1 ∧ W = W1.setCell ⟨g, 2, none⟩ v) L vals W ∧ Ph 6 7 (fun _ => True) (fun v W => ∃ b, v = .slice (some ⟨b, 0, none⟩) 1 1 ∧ W.heap[b]? = some (.cells #[.int .i64 k, .slice so n sc, .int .i64 p.k, .string p.t, .bool p.ng, .slice none 0 0, .slice none 0 0, .int .i64 p.a, .slice none 0 0, .slice none 0 0] 83 (0, 0))) (fun _ _ => True) L vals W) (by kernel_rfl) ?_ (by kernel_rfl) (by kernel_rfl) ?_ ?_
    · exact ⟨AllV.start _ _, Ph.start (Below.refl _ _).drew, Ph.start trivial⟩
    · refine AllOps.cons ?_ ?_
      · intro L vals aa W hC hB hL hD hdep
        obtain ⟨hV, hP0, hP1⟩ := hC
        refine .inl ⟨rfl, ?_⟩
        have b0 : aa.tmps.getD 0 undef = .pointer (some ⟨g, 0, none⟩) := hB.off 0 (by kernel_rfl)
        refine goesV_value (v := .pointer (some ⟨g, 0, none⟩)) ?_ ⟨hV.fix rfl, hP0.idle (by decide) (by decide) _, hP1.idle (by decide) (by decide) _⟩
        simp only [execOp, Act.eval, b0]
        go_simp
      refine AllOps.cons ?_ ?_
      · intro L vals aa W hC hB hL hD hdep
        obtain ⟨hV, hP0, hP1⟩ := hC
        refine .inl ⟨rfl, ?_⟩
        have b0 : aa.tmps.getD 0 undef = .pointer (some ⟨g, 0, none⟩) := hB.off 0 (by kernel_rfl)
        refine goesV_value (v := .pointer (some ⟨g, 0, none⟩)) ?_ ⟨hV.fix rfl, hP0.idle (by decide) (by decide) _, hP1.idle (by decide) (by decide) _⟩
        simp only [execOp, Act.eval, b0]
        go_simp
      refine AllOps.cons ?_ ?_
      · intro L vals aa W hC hB hL hD hdep
        obtain ⟨hV, hP0, hP1⟩ := hC
        refine .inl ⟨rfl, ?_⟩
        have e0 : aa.tmps.getD 31 undef = .pointer (some ⟨g, 0, none⟩) := hV.at (j := 1) rfl (hdep 1 31 (by kernel_rfl))
        refine goesV_value (v := .pointer (some ⟨g, 0, none⟩)) ?_ ⟨hV.fix rfl, hP0.idle (by decide) (by decide) _, hP1.idle (by decide) (by decide) _⟩
        simp only [execOp, Act.eval, e0]
        go_simp
      refine AllOps.cons ?_ ?_
      · intro L vals aa W hC hB hL hD hdep
        obtain ⟨hV, hP0, hP1⟩ := hC
        refine .inl ⟨rfl, ?_⟩
        have e0 : aa.tmps.getD 32 undef = .pointer (some ⟨g, 0, none⟩) := hV.at (j := 2) rfl (hdep 2 32 (by kernel_rfl))
        refine goesV_value (v := .pointer (some ⟨g, 2, none⟩)) ?_ ⟨hV.fix rfl, hP0.idle (by decide) (by decide) _, hP1.idle (by decide) (by decide) _⟩
        simp only [execOp, Act.eval, e0]
        go_simp
      refine AllOps.cons ?_ ?_
      · intro L vals aa W hC hB hL hD hdep
        obtain ⟨hV, hP0, hP1⟩ := hC
        refine .inl ⟨rfl, ?_⟩
        have e0 : aa.tmps.getD 33 undef = .pointer (some ⟨g, 2, none⟩) := hV.at (j := 3) rfl (hdep 3 33 (by kernel_rfl))
        have hpre := hP0.pre (hD 7 (by kernel_rfl))
        obtain ⟨c2, p0, p1, p2, p3, p4, p5, p6, p7, p8, p9⟩ := HXV.out W hpre
        refine goesV_value (v := .slice ao ms.length cap) ?_ ⟨hV.fix rfl, hP0.idle (by decide) (by decide) _, hP1.idle (by decide) (by decide) _⟩
        simp only [execOp, Act.eval, e0]
        go_simp
      refine AllOps.cons ?_ ?_
      · intro L vals aa W hC hB hL hD hdep
        obtain ⟨hV, hP0, hP1⟩ := hC
        refine .inl ⟨rfl, ?_⟩
        have b0 : aa.tmps.getD 3 undef = .pointer (some ⟨pb, 0, none⟩) := hB.off 3 (by kernel_rfl)
        have hpre := hP0.pre (hD 7 (by kernel_rfl))
        obtain ⟨c2, p0, p1, p2, p3, p4, p5, p6, p7, p8, p9⟩ := HXV.out W hpre
        refine goesV_value (v := .agg #[.int .i64 k, .slice so n sc, .int .i64 p.k, .string p.t, .bool p.ng, .slice none 0 0, .slice none 0 0, .int .i64 p.a, .slice none 0 0, .slice none 0 0]) ?_ ⟨hV.fix rfl, hP0.idle (by decide) (by decide) _, hP1.idle (by decide) (by decide) _⟩
        simp only [execOp, Act.eval, b0]
        go_simp
      refine AllOps.cons ?_ ?_
      · intro L vals aa W hC hB hL hD hdep
        obtain ⟨hV, hP0, hP1⟩ := hC
        refine .inl ⟨rfl, ?_⟩
        have e0 : aa.tmps.getD 35 undef = .agg #[.int .i64 k, .slice so n sc, .int .i64 p.k, .string p.t, .bool p.ng, .slice none 0 0, .slice none 0 0, .int .i64 p.a, .slice none 0 0, .slice none 0 0] := hV.at (j := 5) rfl (hdep 5 35 (by kernel_rfl))
        have hpre := hP0.pre (hD 7 (by kernel_rfl))
        refine goesV_world (v := .slice (some ⟨W.heap.size, 0, none⟩) 1 1) (w1 := W.alloc (.cells #[.int .i64 k, .slice so n sc, .int .i64 p.k, .string p.t, .bool p.ng, .slice none 0 0, .slice none 0 0, .int .i64 p.a, .slice none 0 0, .slice none 0 0] 83)) ?_ ⟨hV.free rfl, hP0.ahead (hD 7 (by kernel_rfl)) (by decide) (by decide) _ (hpre.trans ((below1 W _).mono hpre.size)), hP1.first hL (by decide) ⟨_, rfl, box1 W _ _⟩⟩
        simp only [Array.getD_eq_getD_getElem?] at e0
        simp only [execOp]
        go_simp
      refine AllOps.cons ?_ ?_
      · intro L vals aa W hC hB hL hD hdep
        obtain ⟨hV, hP0, hP1⟩ := hC
        refine .inl ⟨rfl, ?_⟩
        have e0 : aa.tmps.getD 34 undef = .slice ao ms.length cap := hV.at (j := 4) rfl (hdep 4 34 (by kernel_rfl))
        obtain ⟨l1, e1⟩ := hdep 6 36 (by kernel_rfl)
        have hpre := hP0.pre hL
        obtain ⟨nb, hnb, hcells⟩ := hP1.mid l1 hL
        rw [hnb] at e1
        have hn : ∀ j u, (roL m)[j]? = some u → W.cell? ((⟨nb, 0, none⟩ : Addr).add j) = some u := by rw [HRO.out]; exact World.news_of_block hcells
        refine goesV_append _ _ 29 rfl 0 83 i0 _ 10 168 Try.underlying29 HI.out.1 HI.out.2.1 HI.out.2.2.1 HI.out.2.2.2 rfl (by decide) (.slice ao ms.length cap) ms.length (roLs ms) e0 (HOR.out W hpre) ⟨nb, 0, none⟩ 1 1 (roL m) e1 (roL_len m) hn (roL_one m (by rw [HSV.out]; rfl)) (by unfold maxLen; omega) (by omega) (Nat.zero_le _) ?_
        intro v5 w5 hown5 hgrow5 hmv5
        exact ⟨hV.free rfl, hP0.first hL (by decide) ⟨W, hpre, hown5, hgrow5, hmv5⟩, Ph.last l1 (by decide) _ trivial⟩
      refine AllOps.cons ?_ ?_
      · intro L vals aa W hC hB hL hD hdep
        obtain ⟨hV, hP0, hP1⟩ := hC
        refine .inl ⟨rfl, ?_⟩
        have e0 : aa.tmps.getD 30 undef = .pointer (some ⟨g, 0, none⟩) := hV.at (j := 0) rfl (hdep 0 30 (by kernel_rfl))
        refine goesV_value (v := .pointer (some ⟨g, 0, none⟩)) ?_ ⟨hV.fix rfl, hP0.idle (by decide) (by decide) _, hP1.idle (by decide) (by decide) _⟩
        simp only [execOp, Act.eval, e0]
        go_simp
      refine AllOps.cons ?_ ?_
      · intro L vals aa W hC hB hL hD hdep
        obtain ⟨hV, hP0, hP1⟩ := hC
        refine .inl ⟨rfl, ?_⟩
        have e0 : aa.tmps.getD 38 undef = .pointer (some ⟨g, 0, none⟩) := hV.at (j := 8) rfl (hdep 8 38 (by kernel_rfl))
        refine goesV_value (v := .pointer (some ⟨g, 2, none⟩)) ?_ ⟨hV.fix rfl, hP0.idle (by decide) (by decide) _, hP1.idle (by decide) (by decide) _⟩
        simp only [execOp, Act.eval, e0]
        go_simp
      refine AllOps.cons ?_ ?_
      · intro L vals aa W hC hB hL hD hdep
        obtain ⟨hV, hP0, hP1⟩ := hC
        refine .inl ⟨rfl, ?_⟩
        have e0 : aa.tmps.getD 39 undef = .pointer (some ⟨g, 2, none⟩) := hV.at (j := 9) rfl (hdep 9 39 (by kernel_rfl))
        obtain ⟨l1, e1⟩ := hdep 7 37 (by kernel_rfl)
        have hmid := hP0.mid l1 hL
        obtain ⟨W1, hpre, hown5, hgrow5, hmv5⟩ := hmid
        obtain ⟨hbx, hnb⟩ := HGB.out W1 hpre
        have hbx2 := (hgrow5.block g (Array.getElem?_eq_some_iff.1 hbx).1 (fun e => hnb e)).trans hbx
        have z2 : W.frozen? ⟨g, 2, none⟩ = false := frozen_heap hbx2 2
        have c2 : W.cell? ⟨g, 2, none⟩ = some (.slice ao ms.length cap) := cell_heap hbx2 2
        have hmid2 := hP0.mid l1 hL
        obtain ⟨vo5, vc5, hv5⟩ := own_dslice hown5
        rw [hv5] at e1
        refine goesV_skip (w1 := W.setCell ⟨g, 2, none⟩ (vals 7)) ?_ ⟨hV.free rfl, Ph.last l1 (by decide) _ ⟨W, W, hmid2, rfl, rfl⟩, Ph.done l1 (hP1.ord l1) (by decide) (by decide) _ trivial⟩
        rw [hv5]
        simp only [Array.getD_eq_getD_getElem?] at e0 e1
        simp only [execOp, Act.eval]
        go_simp
      exact trivial
    · intro L vals aa w8 hC hLL hB hall
      obtain ⟨hV, hP0, hP1⟩ := hC
      have hv : ∀ pq ∈ [((30 : Nat), (.pointer (some ⟨g, 0, none⟩) : Value)), ((31 : Nat), (.pointer (some ⟨g, 0, none⟩) : Value)), ((32 : Nat), (.pointer (some ⟨g, 0, none⟩) : Value)), ((33 : Nat), (.pointer (some ⟨g, 2, none⟩) : Value)), ((34 : Nat), (.slice ao ms.length cap : Value)), ((35 : Nat), (.agg #[.int .i64 k, .slice so n sc, .int .i64 p.k, .string p.t, .bool p.ng, .slice none 0 0, .slice none 0 0, .int .i64 p.a, .slice none 0 0, .slice none 0 0] : Value)), ((36 : Nat), (vals 6 : Value)), ((37 : Nat), (vals 7 : Value)), ((38 : Nat), (.pointer (some ⟨g, 0, none⟩) : Value)), ((39 : Nat), (.pointer (some ⟨g, 2, none⟩) : Value))], aa.tmps.getD pq.1 undef = pq.2 := by
        intro pq hp
        simp only [List.mem_cons, List.not_mem_nil, or_false] at hp
        rcases hp with rfl | rfl | rfl | rfl | rfl | rfl | rfl | rfl | rfl | rfl
        · exact (hall 0 _ rfl _ rfl).trans (hV 0 _ rfl (hLL 0 (Nat.le_of_ble_eq_true rfl)))
        · exact (hall 1 _ rfl _ rfl).trans (hV 1 _ rfl (hLL 1 (Nat.le_of_ble_eq_true rfl)))
        · exact (hall 2 _ rfl _ rfl).trans (hV 2 _ rfl (hLL 2 (Nat.le_of_ble_eq_true rfl)))
        · exact (hall 3 _ rfl _ rfl).trans (hV 3 _ rfl (hLL 3 (Nat.le_of_ble_eq_true rfl)))
        · exact (hall 4 _ rfl _ rfl).trans (hV 4 _ rfl (hLL 4 (Nat.le_of_ble_eq_true rfl)))
        · exact (hall 5 _ rfl _ rfl).trans (hV 5 _ rfl (hLL 5 (Nat.le_of_ble_eq_true rfl)))
        · exact hall 6 _ rfl _ rfl
        · exact hall 7 _ rfl _ rfl
        · exact (hall 8 _ rfl _ rfl).trans (hV 8 _ rfl (hLL 8 (Nat.le_of_ble_eq_true rfl)))
        · exact (hall 9 _ rfl _ rfl).trans (hV 9 _ rfl (hLL 9 (Nat.le_of_ble_eq_true rfl)))
      have hact := act_fold _ hB hv (by kernel_rfl)
      subst hact
      have hfin := hP0.fin (hLL 10 (Nat.le_of_ble_eq_true rfl))
      clear hv hall hB hV hLL hP0 hP1
      refine (‹∀ (a : Act) (w : World), Code.wp Try.prog _ _ a w → _›) _ w8 ?_
      simp only [List.foldl, List.setIfInBounds_toArray, List.set_cons_succ, List.set_cons_zero]
      generalize vals 6 = x6 at *
      generalize vals 7 = x7 at *
      obtain ⟨W1, W2, ⟨W0, hW0, hown, hgrow, hmv⟩, rfl, hw8⟩ := hfin
      obtain ⟨vo, vc, hv7⟩ := own_dslice hown
      subst hv7
      obtain ⟨hbx0, hgn⟩ := HGB.out W0 hW0
      have hbx1 := (hgrow.block g (Array.getElem?_eq_some_iff.1 hbx0).1 (fun e => hgn e)).trans hbx0
      have hbx8 : w8.heap[g]? = some (.cells #[.int .i64 (s.L : Nat), .int .i64 ((s.U + m.o.c : Nat) : Int), .slice vo (ms.length + 1) vc, nv] 32 (0, 0)) := by rw [hw8]; exact rowSet hbx1 2 _
      have hk18 : Keeps (fun b => b ≠ g) W2 w8 := by rw [hw8]; exact (Keeps.refl _ _).set (p := ⟨g, 2, none⟩) (fun h => h rfl) _
      have hk0 : Keeps (fun b => b ≠ g) w W0 := HK3.out.trans (Keeps.of_below hW0)
      obtain ⟨Q', hRs, hQ1, hQ2⟩ := RsM.add (m := m) HM.out HSR.out HSQ.out hown hk0 hgrow hmv (by rw [HC.out, ← HNN.out]; have := HL0.out; have := HNN.out; omega) (by rw [HC.out]; omega) HSN.out hbx8 hk18
      have hrb0 := (hW0.block (pb + 1) HRB.out).trans HX1.out
      have hrb1 := (hgrow.block (pb + 1) (Array.getElem?_eq_some_iff.1 hrb0).1 (fun e => (HNB.out _ e.symm).2 rfl)).trans hrb0
      have hrb8 : w8.heap[pb + 1]? = some (.cells #[.int .i64 0, .int .i64 0] 35 (0, 0)) := (hk18.2 (pb + 1) (Array.getElem?_eq_some_iff.1 hrb1).1 (by have := HGL.out; omega)).trans hrb1
      have hfr8 : Fr Q w w8 := by
        have h1 : Fr Q w W0 := HF3.out.belowThen hW0
        have h2 : Fr Q w W2 := h1.grown hgrow fun b hb => .inr (by have := HM.out.oQ b hb; omega)
        rw [hw8]
        exact h2.set (p := ⟨g, 2, none⟩) (.inr (by show Q g ≠ 0; rw [HM.out.gQ]; omega)) _
      have hrq : Q' (pb + 1) = 0 := Classical.byContradiction fun hn => by
        rcases hQ2 _ hn with h | h | h
        · have := HM.out.lt _ h; omega
        · have := (HSR.out.lt _ h).2; omega
        · have := hW0.size; have := HRB.out; omega
      have HRS := Lib.hid hRs
      have HQ1 := Lib.hid hQ1
      have HQ2 := Lib.hid hQ2
      have HFR := Lib.hid hfr8
      have HRX := Lib.hid hrb8
      have HRQ := Lib.hid hrq
      have HWS : Hid (w.heap.size ≤ W0.heap.size) := Lib.hid hk0.1
      clear hown hgrow hmv hbx0 hgn hbx1 hk18 hk0 hQ1 hQ2 hrb0 hrb1 hfr8 hrq hW0 hw8
      obtain ⟨⟨c0, c1, c2, c3⟩, _⟩ := hRs.boxf
      obtain ⟨r0, r1, rz0, rz1⟩ := row2 hrb8
      clear hRs hrb8 hbx8
      go_wp2_with fail
      have hx := put2 HRX.out (.int .i64 7) (.int .i64 ((ms.length : Nat) : Int))
      obtain ⟨r0, r1, _⟩ := row2 hx
      refine bodyPost_ret (v := .tuple #[.agg #[.int .i64 7, .int .i64 ((ms.length : Nat) : Int)], .int .i64 0]) (by simp [results, Try.results58, go_sem, r0, r1]) rfl (.inr ⟨by rw [HC.out]; omega, by rw [HLEN.out], ?_, Q', ?_, HQ1.out, fun b hb => ?_⟩)
      · exact (HFR.out.set (p := ⟨pb + 1, 0, none⟩) (.inl (by show w.heap.size ≤ pb + 1; omega)) _).set (p := ⟨pb + 1, 1, none⟩) (.inl (by show w.heap.size ≤ pb + 1; omega)) _
      · refine ⟨_, _, _, HRS.out.keep ?_⟩
        exact ((Keeps.refl (fun b => Q' b ≠ 0) _).set (p := ⟨pb + 1, 0, none⟩) (fun h => h HRQ.out) _).set (p := ⟨pb + 1, 1, none⟩) (fun h => h HRQ.out) _
      · rcases HQ2.out b hb with h | h | h
        · exact .inl h
        · exact .inr (.inl h)
        · exact .inr (.inr (Nat.le_trans HWS.out h))
end Go.Proofs.Ytioidaojnbenbaa
