/- The looker: onward. -/
import Derived.Test.YtimnhbndokfgnaaSmLook
namespace Go.Proofs.Ytimnhbndokfgnaa
open Go.RowKit

def OnP (w0 : World) (lb g : Nat) (R : Nat → Nat) (s : St) (F : Nat) (p0 : Pr) (f n : Nat) (mb : Nat) (e : Ending) (w' : World) : Prop :=
  (e = .returned (.tuple #[.bool true, .int .i64 0]) ∧ ∃ f' ov' vs' tk', 2 * f' + vs'.length < 2 * f + n ∧ f' + vs'.length ≤ f + n ∧ LkM w0 w' lb g R s (f' : Nat) ov' mb vs' tk' ∧ s.Inv F p0 f' vs' tk') ∨
  (e = .returned (.tuple #[.bool false, .int .i64 0]) ∧ ∃ f' ov' vs' tk', s.rEq F [p0] = some (false, f') ∧ LkM w0 w' lb g R s (f' : Nat) ov' mb vs' tk') ∨
  (e = .returned (.tuple #[.bool false, .int .i64 15]) ∧ s.rEq F [p0] = none ∧ Below w0.heap.size w0 w')

set_option maxRecDepth 100000 in
set_option maxHeartbeats 4000000 in
theorem onward_any (w0 w : World) (lb g : Nat) (R : Nat → Nat) (s : St) (F : Nat) (pz : Pr) (f : Nat) (ov : Value) (mb : Nat) (v : Vis) (vs : List Vis) (tk : Pr → Option Int) (h : LkM w0 w lb g R s (f : Nat) ov mb (v :: vs) tk) (hp : s.Inv F pz f (v :: vs) tk) (hf : f + (v :: vs).length ≤ 1000000) (hFF : F ≤ 1000000) :
    Calls Try.prog 80 #[.pointer (some ⟨lb, 0, none⟩)] w fun e w' => OnP w0 lb g R s F pz f (vs.length + 1) mb e w' := by
  have HP := Lib.hid hp
  have HF := Lib.hid hf
  have HFF := Lib.hid hFF
  have HM := Lib.hid h
  obtain ⟨b, cap, rfl, hcap, hbl, t0, t1, t2, t3, t4, t5, t6, tz⟩ := h.top
  obtain ⟨⟨c0, c1, c2, c3⟩, z1, z2⟩ := h.cells
  obtain ⟨⟨⟨a0, a1⟩, a2, a3⟩, n, nx, fu⟩ := v
  have hlen : n ≤ 1048576 := by rw [show n = s.len (a0, a1) from hp.ch.1.2.2]; exact h.st.ok.lenv _
  have hnx : nx ≤ n := hp.ch.2.1.elim fun c hc => hc.1
  have hd : vs.length ≤ 999999 := by simp at hf; omega
  simp only at t0 t1 t2 t3 t4 t5 t6
  have hix : ((vs.length : Nat) : Int) < ((vs.length + 1 : Nat) : Int) := by omega
  have hng : (0 : Int) ≤ ((vs.length : Nat) : Int) := by omega
  clear h hp hf hFF
  go_enter Try.func80, Try.ntmps80
  go_upto_region 3 with fail
  go_region
  clear t0 t1 t2 t3 t4 t5 t6 tz c0 c1 c2 c3 z1 z2
  go_wp2_with fail
  go_loopw [30] (fun x wr => ∃ (k f' : Nat), k ≤ n - nx ∧ x = .int .i64 (k : Nat) ∧ f' ≤ f ∧ LkM w0 wr lb g R s (f' : Nat) (.slice (some ⟨b, 0, none⟩) (vs.length + 1) cap) mb (⟨((a0, a1), a2, a3), n, nx + k, fu⟩ :: vs) tk ∧ s.Inv F pz f' (⟨((a0, a1), a2, a3), n, nx + k, fu⟩ :: vs) tk) (fun x _ => (n - nx) - (intOf x).toNat)
  case atStart => exact ⟨0, f, Nat.zero_le _, rfl, Nat.le_refl _, HM.out.below (Below.refl w.heap.size w).drew, HP.out⟩
  case round =>
    obtain ⟨k, f', hk, rfl, hff, hm, hinv⟩ := hrel
    have HR := Lib.hid hm
    have HI := Lib.hid hinv
    obtain ⟨b', cap', he, _, hbr, t0, t1, t2, t3, t4, t5, t6, tz⟩ := hm.top
    simp only [Value.slice.injEq, Option.some.injEq, Addr.mk.injEq, and_true, true_and] at he
    obtain ⟨rfl, rfl⟩ := he
    simp only at t0 t1 t2 t3 t4 t5 t6
    obtain ⟨⟨c0, c1, c2, c3⟩, z1, z2⟩ := hm.cells
    clear hm hinv
    by_cases hlt : k < n - nx
    · have hii : ((k : Nat) : Int) < ((n : Nat) : Int) - ((nx : Nat) : Int) := by omega
      have HSA : Hid (∀ W, Below wr.heap.size wr W → Calls Try.prog 81 #[.pointer (some ⟨g, 0, none⟩), .agg #[.int .i64 a0, .int .i64 a1], .agg #[.int .i64 a2, .int .i64 a3], .int .i64 ((nx + k : Nat) : Int)] W fun e w' => e = .returned (.agg #[.int .i64 (s.kid ((a0, a1), a2, a3) (nx + k)).1.1, .int .i64 (s.kid ((a0, a1), a2, a3) (nx + k)).1.2, .int .i64 (s.kid ((a0, a1), a2, a3) (nx + k)).2.1, .int .i64 (s.kid ((a0, a1), a2, a3) (nx + k)).2.2]) ∧ Below W.heap.size W w') := Lib.hid fun W hW => slotsat_any g R s (a0, a1) (a2, a3) ((nx + k : Nat) : Int) W (HR.out.st.below hW)
      have HPE := Lib.hid (HI.out.next (show nx + k < n by omega))
      simp only at HPE
      obtain ⟨q, hq⟩ : ∃ q, q = s.kid ((a0, a1), a2, a3) (nx + k) := ⟨_, rfl⟩
      rw [← hq] at HSA HPE
      obtain ⟨⟨q0, q1⟩, q2, q3⟩ := q
      simp only at HSA
      clear hq
      go_upto_region 5 with fail
      have HX : Hid (∀ W, Below wr.heap.size wr W → W.cell? ⟨lb, 0, none⟩ = some (.pointer (some ⟨g, 0, none⟩)) ∧ W.cell? ⟨b, vs.length * 7, none⟩ = some (.int .i64 a0) ∧ W.cell? ⟨b, vs.length * 7 + 1, none⟩ = some (.int .i64 a1) ∧ W.cell? ⟨b, vs.length * 7 + 2, none⟩ = some (.int .i64 a2) ∧ W.cell? ⟨b, vs.length * 7 + 3, none⟩ = some (.int .i64 a3) ∧ W.cell? ⟨b, vs.length * 7 + 5, none⟩ = some (.int .i64 ((nx + k : Nat) : Int))) := Lib.hid fun W hW => ⟨(hW.cell (p := ⟨lb, 0, none⟩) HR.out.lt).trans c0, (hW.cell (p := ⟨b, _, none⟩) hbr).trans t0, (hW.cell (p := ⟨b, _, none⟩) hbr).trans t1, (hW.cell (p := ⟨b, _, none⟩) hbr).trans t2, (hW.cell (p := ⟨b, _, none⟩) hbr).trans t3, (hW.cell (p := ⟨b, _, none⟩) hbr).trans t5⟩
      clear t0 t1 t2 t3 t4 t5 t6 tz c0 c1 c2 c3 z1 z2
      refine wp_region_vals (fun L vals W => AllV [some (.pointer (some ⟨lb, 0, none⟩)), some (.pointer (some ⟨lb, 0, none⟩)), some (.pointer (some ⟨lb, 0, none⟩)), some (.pointer (some ⟨g, 0, none⟩)), some (.pointer (some ⟨b, vs.length * 7, none⟩)), some (.pointer (some ⟨b, vs.length * 7, none⟩)), some (.pointer (some ⟨b, vs.length * 7, none⟩)), some (.pointer (some ⟨b, vs.length * 7, none⟩)), some (.agg #[.int .i64 a0, .int .i64 a1]), some (.pointer (some ⟨b, vs.length * 7, none⟩)), some (.pointer (some ⟨b, vs.length * 7, none⟩)), some (.pointer (some ⟨b, vs.length * 7, none⟩)), some (.pointer (some ⟨b, vs.length * 7 + 2, none⟩)), some (.agg #[.int .i64 a2, .int .i64 a3]), some (.pointer (some ⟨b, vs.length * 7, none⟩)), some (.pointer (some ⟨b, vs.length * 7, none⟩)), some (.pointer (some ⟨b, vs.length * 7 + 5, none⟩)), some (.int .i64 ((nx + k : Nat) : Int)), some (.agg #[.int .i64 q0, .int .i64 q1, .int .i64 q2, .int .i64 q3]), none, none] L vals ∧ Ph 20 21 (fun W => Below wr.heap.size wr W) (fun _ _ => True) (fun _ _ => True) L vals W ∧ Ph 19 20 (fun _ => True) (fun x W => ∃ pb, x = .pointer (some ⟨pb, 0, none⟩) ∧ wr.heap.size ≤ pb ∧ W.heap[pb]? = some (.cells #[.int .i64 0, .int .i64 0, .int .i64 0, .int .i64 0] 126 (0, 0))) (fun x W => ∃ pb, x = .pointer (some ⟨pb, 0, none⟩) ∧ wr.heap.size ≤ pb ∧ W.heap[pb]? = some (.cells #[.int .i64 q0, .int .i64 q1, .int .i64 q2, .int .i64 q3] 126 (0, 0)) ∧ Below wr.heap.size wr W) L vals W) (by kernel_rfl) ?_ (by kernel_rfl) (by kernel_rfl) ?_ ?_
      · exact ⟨AllV.start _ _, Ph.start (Below.refl _ _).drew, Ph.start trivial⟩
      · refine AllOps.cons ?_ ?_
        · intro L vals aa W hC hB hL hD hdep
          obtain ⟨hV, hP0, hP1⟩ := hC
          refine .inl ⟨rfl, ?_⟩
          have b0 : aa.tmps.getD 0 undef = .pointer (some ⟨lb, 0, none⟩) := hB.off 0 (by kernel_rfl)
          refine goesV_value (v := .pointer (some ⟨lb, 0, none⟩)) ?_ ⟨hV.fix rfl, hP0.idle (by decide) (by decide) _, hP1.idle (by decide) (by decide) _⟩
          simp only [execOp, Act.eval, b0]
          go_simp
        refine AllOps.cons ?_ ?_
        · intro L vals aa W hC hB hL hD hdep
          obtain ⟨hV, hP0, hP1⟩ := hC
          refine .inl ⟨rfl, ?_⟩
          have e0 : aa.tmps.getD 32 undef = .pointer (some ⟨lb, 0, none⟩) := hV.at (j := 0) rfl (hdep 0 32 (by kernel_rfl))
          refine goesV_value (v := .pointer (some ⟨lb, 0, none⟩)) ?_ ⟨hV.fix rfl, hP0.idle (by decide) (by decide) _, hP1.idle (by decide) (by decide) _⟩
          simp only [execOp, Act.eval, e0]
          go_simp
        refine AllOps.cons ?_ ?_
        · intro L vals aa W hC hB hL hD hdep
          obtain ⟨hV, hP0, hP1⟩ := hC
          refine .inl ⟨rfl, ?_⟩
          have e0 : aa.tmps.getD 33 undef = .pointer (some ⟨lb, 0, none⟩) := hV.at (j := 1) rfl (hdep 1 33 (by kernel_rfl))
          refine goesV_value (v := .pointer (some ⟨lb, 0, none⟩)) ?_ ⟨hV.fix rfl, hP0.idle (by decide) (by decide) _, hP1.idle (by decide) (by decide) _⟩
          simp only [execOp, Act.eval, e0]
          go_simp
        refine AllOps.cons ?_ ?_
        · intro L vals aa W hC hB hL hD hdep
          obtain ⟨hV, hP0, hP1⟩ := hC
          refine .inl ⟨rfl, ?_⟩
          have e0 : aa.tmps.getD 34 undef = .pointer (some ⟨lb, 0, none⟩) := hV.at (j := 2) rfl (hdep 2 34 (by kernel_rfl))
          have hpre := hP0.pre (hD 20 (by kernel_rfl))
          obtain ⟨c0, t0, t1, t2, t3, t5⟩ := HX.out W hpre
          refine goesV_value (v := .pointer (some ⟨g, 0, none⟩)) ?_ ⟨hV.fix rfl, hP0.idle (by decide) (by decide) _, hP1.idle (by decide) (by decide) _⟩
          simp only [execOp, Act.eval, e0]
          go_simp
        refine AllOps.cons ?_ ?_
        · intro L vals aa W hC hB hL hD hdep
          obtain ⟨hV, hP0, hP1⟩ := hC
          refine .inl ⟨rfl, ?_⟩
          have b0 : aa.tmps.getD 5 undef = .pointer (some ⟨b, vs.length * 7, none⟩) := hB.off 5 (by kernel_rfl)
          refine goesV_value (v := .pointer (some ⟨b, vs.length * 7, none⟩)) ?_ ⟨hV.fix rfl, hP0.idle (by decide) (by decide) _, hP1.idle (by decide) (by decide) _⟩
          simp only [execOp, Act.eval, b0]
          go_simp
        refine AllOps.cons ?_ ?_
        · intro L vals aa W hC hB hL hD hdep
          obtain ⟨hV, hP0, hP1⟩ := hC
          refine .inl ⟨rfl, ?_⟩
          have e0 : aa.tmps.getD 36 undef = .pointer (some ⟨b, vs.length * 7, none⟩) := hV.at (j := 4) rfl (hdep 4 36 (by kernel_rfl))
          refine goesV_value (v := .pointer (some ⟨b, vs.length * 7, none⟩)) ?_ ⟨hV.fix rfl, hP0.idle (by decide) (by decide) _, hP1.idle (by decide) (by decide) _⟩
          simp only [execOp, Act.eval, e0]
          go_simp
        refine AllOps.cons ?_ ?_
        · intro L vals aa W hC hB hL hD hdep
          obtain ⟨hV, hP0, hP1⟩ := hC
          refine .inl ⟨rfl, ?_⟩
          have e0 : aa.tmps.getD 37 undef = .pointer (some ⟨b, vs.length * 7, none⟩) := hV.at (j := 5) rfl (hdep 5 37 (by kernel_rfl))
          refine goesV_value (v := .pointer (some ⟨b, vs.length * 7, none⟩)) ?_ ⟨hV.fix rfl, hP0.idle (by decide) (by decide) _, hP1.idle (by decide) (by decide) _⟩
          simp only [execOp, Act.eval, e0]
          go_simp
        refine AllOps.cons ?_ ?_
        · intro L vals aa W hC hB hL hD hdep
          obtain ⟨hV, hP0, hP1⟩ := hC
          refine .inl ⟨rfl, ?_⟩
          have e0 : aa.tmps.getD 38 undef = .pointer (some ⟨b, vs.length * 7, none⟩) := hV.at (j := 6) rfl (hdep 6 38 (by kernel_rfl))
          refine goesV_value (v := .pointer (some ⟨b, vs.length * 7, none⟩)) ?_ ⟨hV.fix rfl, hP0.idle (by decide) (by decide) _, hP1.idle (by decide) (by decide) _⟩
          simp only [execOp, Act.eval, e0]
          go_simp
        refine AllOps.cons ?_ ?_
        · intro L vals aa W hC hB hL hD hdep
          obtain ⟨hV, hP0, hP1⟩ := hC
          refine .inl ⟨rfl, ?_⟩
          have e0 : aa.tmps.getD 39 undef = .pointer (some ⟨b, vs.length * 7, none⟩) := hV.at (j := 7) rfl (hdep 7 39 (by kernel_rfl))
          have hpre := hP0.pre (hD 20 (by kernel_rfl))
          obtain ⟨c0, t0, t1, t2, t3, t5⟩ := HX.out W hpre
          refine goesV_value (v := .agg #[.int .i64 a0, .int .i64 a1]) ?_ ⟨hV.fix rfl, hP0.idle (by decide) (by decide) _, hP1.idle (by decide) (by decide) _⟩
          simp only [execOp, Act.eval, e0]
          go_simp
        refine AllOps.cons ?_ ?_
        · intro L vals aa W hC hB hL hD hdep
          obtain ⟨hV, hP0, hP1⟩ := hC
          refine .inl ⟨rfl, ?_⟩
          have b0 : aa.tmps.getD 5 undef = .pointer (some ⟨b, vs.length * 7, none⟩) := hB.off 5 (by kernel_rfl)
          refine goesV_value (v := .pointer (some ⟨b, vs.length * 7, none⟩)) ?_ ⟨hV.fix rfl, hP0.idle (by decide) (by decide) _, hP1.idle (by decide) (by decide) _⟩
          simp only [execOp, Act.eval, b0]
          go_simp
        refine AllOps.cons ?_ ?_
        · intro L vals aa W hC hB hL hD hdep
          obtain ⟨hV, hP0, hP1⟩ := hC
          refine .inl ⟨rfl, ?_⟩
          have e0 : aa.tmps.getD 41 undef = .pointer (some ⟨b, vs.length * 7, none⟩) := hV.at (j := 9) rfl (hdep 9 41 (by kernel_rfl))
          refine goesV_value (v := .pointer (some ⟨b, vs.length * 7, none⟩)) ?_ ⟨hV.fix rfl, hP0.idle (by decide) (by decide) _, hP1.idle (by decide) (by decide) _⟩
          simp only [execOp, Act.eval, e0]
          go_simp
        refine AllOps.cons ?_ ?_
        · intro L vals aa W hC hB hL hD hdep
          obtain ⟨hV, hP0, hP1⟩ := hC
          refine .inl ⟨rfl, ?_⟩
          have e0 : aa.tmps.getD 42 undef = .pointer (some ⟨b, vs.length * 7, none⟩) := hV.at (j := 10) rfl (hdep 10 42 (by kernel_rfl))
          refine goesV_value (v := .pointer (some ⟨b, vs.length * 7, none⟩)) ?_ ⟨hV.fix rfl, hP0.idle (by decide) (by decide) _, hP1.idle (by decide) (by decide) _⟩
          simp only [execOp, Act.eval, e0]
          go_simp
        refine AllOps.cons ?_ ?_
        · intro L vals aa W hC hB hL hD hdep
          obtain ⟨hV, hP0, hP1⟩ := hC
          refine .inl ⟨rfl, ?_⟩
          have e0 : aa.tmps.getD 43 undef = .pointer (some ⟨b, vs.length * 7, none⟩) := hV.at (j := 11) rfl (hdep 11 43 (by kernel_rfl))
          refine goesV_value (v := .pointer (some ⟨b, vs.length * 7 + 2, none⟩)) ?_ ⟨hV.fix rfl, hP0.idle (by decide) (by decide) _, hP1.idle (by decide) (by decide) _⟩
          simp only [execOp, Act.eval, e0]
          go_simp
        refine AllOps.cons ?_ ?_
        · intro L vals aa W hC hB hL hD hdep
          obtain ⟨hV, hP0, hP1⟩ := hC
          refine .inl ⟨rfl, ?_⟩
          have e0 : aa.tmps.getD 44 undef = .pointer (some ⟨b, vs.length * 7 + 2, none⟩) := hV.at (j := 12) rfl (hdep 12 44 (by kernel_rfl))
          have hpre := hP0.pre (hD 20 (by kernel_rfl))
          obtain ⟨c0, t0, t1, t2, t3, t5⟩ := HX.out W hpre
          refine goesV_value (v := .agg #[.int .i64 a2, .int .i64 a3]) ?_ ⟨hV.fix rfl, hP0.idle (by decide) (by decide) _, hP1.idle (by decide) (by decide) _⟩
          simp only [execOp, Act.eval, e0]
          go_simp
        refine AllOps.cons ?_ ?_
        · intro L vals aa W hC hB hL hD hdep
          obtain ⟨hV, hP0, hP1⟩ := hC
          refine .inl ⟨rfl, ?_⟩
          have b0 : aa.tmps.getD 5 undef = .pointer (some ⟨b, vs.length * 7, none⟩) := hB.off 5 (by kernel_rfl)
          refine goesV_value (v := .pointer (some ⟨b, vs.length * 7, none⟩)) ?_ ⟨hV.fix rfl, hP0.idle (by decide) (by decide) _, hP1.idle (by decide) (by decide) _⟩
          simp only [execOp, Act.eval, b0]
          go_simp
        refine AllOps.cons ?_ ?_
        · intro L vals aa W hC hB hL hD hdep
          obtain ⟨hV, hP0, hP1⟩ := hC
          refine .inl ⟨rfl, ?_⟩
          have e0 : aa.tmps.getD 46 undef = .pointer (some ⟨b, vs.length * 7, none⟩) := hV.at (j := 14) rfl (hdep 14 46 (by kernel_rfl))
          refine goesV_value (v := .pointer (some ⟨b, vs.length * 7, none⟩)) ?_ ⟨hV.fix rfl, hP0.idle (by decide) (by decide) _, hP1.idle (by decide) (by decide) _⟩
          simp only [execOp, Act.eval, e0]
          go_simp
        refine AllOps.cons ?_ ?_
        · intro L vals aa W hC hB hL hD hdep
          obtain ⟨hV, hP0, hP1⟩ := hC
          refine .inl ⟨rfl, ?_⟩
          have e0 : aa.tmps.getD 47 undef = .pointer (some ⟨b, vs.length * 7, none⟩) := hV.at (j := 15) rfl (hdep 15 47 (by kernel_rfl))
          refine goesV_value (v := .pointer (some ⟨b, vs.length * 7 + 5, none⟩)) ?_ ⟨hV.fix rfl, hP0.idle (by decide) (by decide) _, hP1.idle (by decide) (by decide) _⟩
          simp only [execOp, Act.eval, e0]
          go_simp
        refine AllOps.cons ?_ ?_
        · intro L vals aa W hC hB hL hD hdep
          obtain ⟨hV, hP0, hP1⟩ := hC
          refine .inl ⟨rfl, ?_⟩
          have e0 : aa.tmps.getD 48 undef = .pointer (some ⟨b, vs.length * 7 + 5, none⟩) := hV.at (j := 16) rfl (hdep 16 48 (by kernel_rfl))
          have hpre := hP0.pre (hD 20 (by kernel_rfl))
          obtain ⟨c0, t0, t1, t2, t3, t5⟩ := HX.out W hpre
          refine goesV_value (v := .int .i64 ((nx + k : Nat) : Int)) ?_ ⟨hV.fix rfl, hP0.idle (by decide) (by decide) _, hP1.idle (by decide) (by decide) _⟩
          simp only [execOp, Act.eval, e0]
          go_simp
        refine AllOps.cons ?_ ?_
        · intro L vals aa W hC hB hL hD hdep
          obtain ⟨hV, hP0, hP1⟩ := hC
          refine .inl ⟨rfl, ?_⟩
          have e0 : aa.tmps.getD 35 undef = .pointer (some ⟨g, 0, none⟩) := hV.at (j := 3) rfl (hdep 3 35 (by kernel_rfl))
          have e1 : aa.tmps.getD 40 undef = .agg #[.int .i64 a0, .int .i64 a1] := hV.at (j := 8) rfl (hdep 8 40 (by kernel_rfl))
          have e2 : aa.tmps.getD 45 undef = .agg #[.int .i64 a2, .int .i64 a3] := hV.at (j := 13) rfl (hdep 13 45 (by kernel_rfl))
          have e3 : aa.tmps.getD 49 undef = .int .i64 ((nx + k : Nat) : Int) := hV.at (j := 17) rfl (hdep 17 49 (by kernel_rfl))
          have hpre := hP0.pre (hD 20 (by kernel_rfl))
          refine goesV_call (f := 81) (args := #[.pointer (some ⟨g, 0, none⟩), .agg #[.int .i64 a0, .int .i64 a1], .agg #[.int .i64 a2, .int .i64 a3], .int .i64 ((nx + k : Nat) : Int)]) ?_ ?_
          · simp only [execOp]
            go_simp
          · refine (HSA.out W hpre).mono fun e w7 ⟨he, hb⟩ => ⟨_, he, hV.fix rfl, hP0.ahead (hD 20 (by kernel_rfl)) (by decide) (by decide) _ (hpre.trans (hb.mono hpre.size)), hP1.mono (by decide) (by decide) _ (fun h => h) (fun x ⟨pb, h1, h2, h3⟩ => ⟨pb, h1, h2, (hb.block pb (Array.getElem?_eq_some_iff.1 h3).1).trans h3⟩) (fun x ⟨pb, h1, h2, h3, h4⟩ => ⟨pb, h1, h2, (hb.block pb (Array.getElem?_eq_some_iff.1 h3).1).trans h3, h4.trans (hb.mono h4.size)⟩)⟩
        refine AllOps.cons ?_ ?_
        · intro L vals aa W hC hB hL hD hdep
          obtain ⟨hV, hP0, hP1⟩ := hC
          refine .inl ⟨rfl, ?_⟩
          have hpre := hP0.pre (hD 20 (by kernel_rfl))
          refine goesV_world (v := .pointer (some ⟨W.heap.size, 0, none⟩)) (w1 := W.alloc (.cells #[.int .i64 0, .int .i64 0, .int .i64 0, .int .i64 0] 126)) ?_ ⟨hV.free rfl, hP0.ahead (hD 20 (by kernel_rfl)) (by decide) (by decide) _ (hpre.trans ((below1 W _).mono hpre.size)), hP1.first hL (by decide) ⟨_, rfl, hpre.size, box1 W _ _⟩⟩
          simp only [execOp]
          go_simp
        refine AllOps.cons ?_ ?_
        · intro L vals aa W hC hB hL hD hdep
          obtain ⟨hV, hP0, hP1⟩ := hC
          refine .inl ⟨rfl, ?_⟩
          obtain ⟨l0, e0⟩ := hdep 19 6 (by kernel_rfl)
          have e1 : aa.tmps.getD 50 undef = .agg #[.int .i64 q0, .int .i64 q1, .int .i64 q2, .int .i64 q3] := hV.at (j := 18) rfl (hdep 18 50 (by kernel_rfl))
          have hpre := hP0.pre hL
          obtain ⟨pb, hpb, hge, hcells⟩ := hP1.mid l0 hL
          rw [hpb] at e0
          obtain ⟨y0, y1, y2, y3⟩ := row4 hcells
          have y4 := frozen_heap hcells 0
          have y5 := frozen_heap hcells 1
          have y6 := frozen_heap hcells 2
          have y7 := frozen_heap hcells 3
          refine goesV_skip (w1 := (((W.setCell ⟨pb, 0, none⟩ (.int .i64 q0)).setCell ⟨pb, 1, none⟩ (.int .i64 q1)).setCell ⟨pb, 2, none⟩ (.int .i64 q2)).setCell ⟨pb, 3, none⟩ (.int .i64 q3)) ?_ ⟨hV.free rfl, hP0.first hL (by decide) trivial, Ph.last l0 (by decide) _ ⟨pb, hpb, hge, ?_, (((hpre.setCell hge _).setCell hge _).setCell hge _).setCell hge _⟩⟩
          · simp only [execOp, Act.eval, e0, e1]
            go_simp
          · exact rowSet (rowSet (rowSet (rowSet hcells 0 _) 1 _) 2 _) 3 _
        exact trivial
      · intro L vals aa w8 hC hLL hB hall
        obtain ⟨hV, hP0, hP1⟩ := hC
        have hv : ∀ p ∈ [((32 : Nat), (.pointer (some ⟨lb, 0, none⟩) : Value)), ((33 : Nat), (.pointer (some ⟨lb, 0, none⟩) : Value)), ((34 : Nat), (.pointer (some ⟨lb, 0, none⟩) : Value)), ((35 : Nat), (.pointer (some ⟨g, 0, none⟩) : Value)), ((36 : Nat), (.pointer (some ⟨b, vs.length * 7, none⟩) : Value)), ((37 : Nat), (.pointer (some ⟨b, vs.length * 7, none⟩) : Value)), ((38 : Nat), (.pointer (some ⟨b, vs.length * 7, none⟩) : Value)), ((39 : Nat), (.pointer (some ⟨b, vs.length * 7, none⟩) : Value)), ((40 : Nat), (.agg #[.int .i64 a0, .int .i64 a1] : Value)), ((41 : Nat), (.pointer (some ⟨b, vs.length * 7, none⟩) : Value)), ((42 : Nat), (.pointer (some ⟨b, vs.length * 7, none⟩) : Value)), ((43 : Nat), (.pointer (some ⟨b, vs.length * 7, none⟩) : Value)), ((44 : Nat), (.pointer (some ⟨b, vs.length * 7 + 2, none⟩) : Value)), ((45 : Nat), (.agg #[.int .i64 a2, .int .i64 a3] : Value)), ((46 : Nat), (.pointer (some ⟨b, vs.length * 7, none⟩) : Value)), ((47 : Nat), (.pointer (some ⟨b, vs.length * 7, none⟩) : Value)), ((48 : Nat), (.pointer (some ⟨b, vs.length * 7 + 5, none⟩) : Value)), ((49 : Nat), (.int .i64 ((nx + k : Nat) : Int) : Value)), ((50 : Nat), (.agg #[.int .i64 q0, .int .i64 q1, .int .i64 q2, .int .i64 q3] : Value)), ((6 : Nat), (vals 19 : Value))], aa.tmps.getD p.1 undef = p.2 := by
          intro p hp
          simp only [List.mem_cons, List.not_mem_nil, or_false] at hp
          rcases hp with rfl | rfl | rfl | rfl | rfl | rfl | rfl | rfl | rfl | rfl | rfl | rfl | rfl | rfl | rfl | rfl | rfl | rfl | rfl | rfl
          · exact (hall 0 _ rfl _ rfl).trans (hV 0 _ rfl (hLL 0 (Nat.le_of_ble_eq_true rfl)))
          · exact (hall 1 _ rfl _ rfl).trans (hV 1 _ rfl (hLL 1 (Nat.le_of_ble_eq_true rfl)))
          · exact (hall 2 _ rfl _ rfl).trans (hV 2 _ rfl (hLL 2 (Nat.le_of_ble_eq_true rfl)))
          · exact (hall 3 _ rfl _ rfl).trans (hV 3 _ rfl (hLL 3 (Nat.le_of_ble_eq_true rfl)))
          · exact (hall 4 _ rfl _ rfl).trans (hV 4 _ rfl (hLL 4 (Nat.le_of_ble_eq_true rfl)))
          · exact (hall 5 _ rfl _ rfl).trans (hV 5 _ rfl (hLL 5 (Nat.le_of_ble_eq_true rfl)))
          · exact (hall 6 _ rfl _ rfl).trans (hV 6 _ rfl (hLL 6 (Nat.le_of_ble_eq_true rfl)))
          · exact (hall 7 _ rfl _ rfl).trans (hV 7 _ rfl (hLL 7 (Nat.le_of_ble_eq_true rfl)))
          · exact (hall 8 _ rfl _ rfl).trans (hV 8 _ rfl (hLL 8 (Nat.le_of_ble_eq_true rfl)))
          · exact (hall 9 _ rfl _ rfl).trans (hV 9 _ rfl (hLL 9 (Nat.le_of_ble_eq_true rfl)))
          · exact (hall 10 _ rfl _ rfl).trans (hV 10 _ rfl (hLL 10 (Nat.le_of_ble_eq_true rfl)))
          · exact (hall 11 _ rfl _ rfl).trans (hV 11 _ rfl (hLL 11 (Nat.le_of_ble_eq_true rfl)))
          · exact (hall 12 _ rfl _ rfl).trans (hV 12 _ rfl (hLL 12 (Nat.le_of_ble_eq_true rfl)))
          · exact (hall 13 _ rfl _ rfl).trans (hV 13 _ rfl (hLL 13 (Nat.le_of_ble_eq_true rfl)))
          · exact (hall 14 _ rfl _ rfl).trans (hV 14 _ rfl (hLL 14 (Nat.le_of_ble_eq_true rfl)))
          · exact (hall 15 _ rfl _ rfl).trans (hV 15 _ rfl (hLL 15 (Nat.le_of_ble_eq_true rfl)))
          · exact (hall 16 _ rfl _ rfl).trans (hV 16 _ rfl (hLL 16 (Nat.le_of_ble_eq_true rfl)))
          · exact (hall 17 _ rfl _ rfl).trans (hV 17 _ rfl (hLL 17 (Nat.le_of_ble_eq_true rfl)))
          · exact (hall 18 _ rfl _ rfl).trans (hV 18 _ rfl (hLL 18 (Nat.le_of_ble_eq_true rfl)))
          · exact hall 19 _ rfl _ rfl
        have hact := act_fold _ hB hv (by kernel_rfl)
        subst hact
        have hfin := hP1.fin (hLL 20 (Nat.le_of_ble_eq_true rfl))
        clear hv hall hB hV hLL hP0 hP1
        refine (‹∀ (a : Act) (w : World), Code.wp Try.prog _ _ a w → _›) _ w8 ?_
        simp only [List.foldl, List.setIfInBounds_toArray, List.set_cons_succ, List.set_cons_zero]
        obtain ⟨pb, hx, hge, hcells, hb5⟩ := hfin
        rw [hx]
        clear hx
        generalize vals 19 = x19 at *
        have HM5 := Lib.hid (HR.out.below hb5)
        have HN5 := Lib.hid hcells
        have hpbo : pb ≠ b := by omega
        clear hb5 hcells
        obtain ⟨b', cap', he, _, hbr5, t0, t1, t2, t3, t4, t5, t6, tz⟩ := HM5.out.top
        simp only [Value.slice.injEq, Option.some.injEq, Addr.mk.injEq, and_true, true_and] at he
        obtain ⟨rfl, rfl⟩ := he
        simp only at t0 t1 t2 t3 t4 t5 t6
        have tz5 := tz (vs.length * 7 + 5)
        clear tz
        have hM6 := HM5.out.next (nx + (k + 1)) (b := b) rfl
        simp only at hM6
        have hn6 := (Below.heap_setCell w8 ⟨b, vs.length * 7 + 5, none⟩ (.int .i64 ((nx + (k + 1) : Nat) : Int)) pb hpbo).trans HN5.out
        have HM6 := Lib.hid hM6
        have HN6 := Lib.hid hn6
        obtain ⟨p0, p1, p2, p3⟩ := row4 hn6
        clear hM6 hn6
        have hk1 : nx + k ≤ 1048576 := by omega
        have hwe : ((nx + (k + 1) : Nat) : Int) = (nx : Int) + (k : Int) + 1 := by omega
        rw [hwe] at HM6 HN6 p0 p1 p2 p3
        clear hwe
        go_upto_region 7 with fail
        clear t0 t1 t2 t3 t4 t5 t6 tz5 p0 p1 p2 p3
        generalize w8.setCell ⟨b, vs.length * 7 + 5, none⟩ (.int .i64 ((nx : Int) + (k : Int) + 1)) = w9 at *
        obtain ⟨p0, p1, p2, p3⟩ := row4 HN6.out
        have hq7 : (Value.agg #[.int .i64 q0, .int .i64 q1, .int .i64 q2, .int .i64 q3]) = pk ((q0, q1), (q2, q3)) := rfl
        clear hpbo hbr5
        go_wp2_with fail
        refine (look_any w0 w9 lb g R s F pz ((q0, q1), (q2, q3)) f' _ mb _ tk HM6.out HPE.out (by have := HF.out; simp at this ⊢; omega)).mono ?_
        rintro e w10 (⟨rfl, f2, hf2, hm2, hi2⟩ | ⟨rfl, f2, ov2, hf2, hm2, hi2⟩ | ⟨rfl, f2, hr2, hm2⟩ | ⟨rfl, hr2, hb2⟩)
        · have HM10 := Lib.hid hm2
          have HI10 := Lib.hid hi2
          obtain ⟨⟨c0, c1, c2, c3⟩, z1, z2⟩ := hm2.cells
          clear hm2 hi2 p0 p1 p2 p3 hq7
          have hnl : ¬ (((vs.length + 1 : Nat) : Int)) > ((vs.length : Nat) : Int) + 1 := by omega
          go_wp2_with fail
          go_roundw
          case measure => simp only [intOf]; omega
          case rel => exact ⟨k + 1, f2, by omega, by go_num, by omega, HM10.out, HI10.out⟩
        · obtain ⟨vo2, vc2, rfl⟩ := own_dslice hm2.row
          have HM10 := Lib.hid hm2
          have HI10 := Lib.hid hi2
          obtain ⟨⟨c0, c1, c2, c3⟩, z1, z2⟩ := hm2.cells
          simp only [List.length_cons] at c2
          clear hm2 hi2 p0 p1 p2 p3 hq7
          have hnl : (((vs.length + 1 + 1 : Nat) : Int)) > ((vs.length : Nat) : Int) + 1 := by omega
          go_wp2_with fail
          go_ret2
          exact .inl ⟨rfl, f2, _, _, _, by simp; omega, by simp; omega, HM10.out, HI10.out⟩
        · have HM10 := Lib.hid hm2
          clear hm2 p0 p1 p2 p3 hq7
          go_wp2_with fail
          go_ret2
          exact .inr (.inl ⟨rfl, f2, _, _, _, hr2, HM10.out⟩)
        · clear p0 p1 p2 p3 hq7
          go_wp2_with fail
          go_ret2
          exact .inr (.inr ⟨rfl, hr2, hb2⟩)
    · have hkn : k = n - nx := by omega
      have hii : ¬ ((k : Nat) : Int) < ((n : Nat) : Int) - ((nx : Nat) : Int) := by omega
      obtain ⟨hfu, hdn⟩ := HI.out.done (show ¬ (nx + k) < n by omega)
      simp only at hfu hdn
      have hdr : Below wr.heap.size wr wr.drew := (Below.refl wr.heap.size wr).drew
      have HM4 := Lib.hid (HR.out.below hdr)
      have HD := Lib.hid hdn
      have hfub : fu ≤ 1000000 := Nat.le_trans (HI.out.bd.2 _ List.mem_cons_self) HFF.out
      obtain ⟨w9, hrun, hmt, hkp, ho, ht, hu⟩ := HM4.out.map.put ((a0, a1), (a2, a3)) ((fu : Int) - (f' : Int))
      have HM9 := Lib.hid (HM4.out.mapped hkp ho ht hu hmt)
      have hwr : IntKind.i64.wrap ((fu : Int) - (f' : Int)) = (fu : Int) - (f' : Int) := by rw [IntKind.wrap_i64]; omega
      unfold pk at hrun
      clear hmt hkp ho ht hu hdr hdn
      go_upto_region 11 with fail
      go_region
      clear hrun hwr c0 c1 c2 c3 z1 z2 t0 t1 t2 t3 t4 t5 t6 tz
      obtain ⟨⟨c0, c1, c2, c3⟩, z1, z2⟩ := HM9.out.cells
      have hle1 : (0 : Int) ≤ ((vs.length : Nat) : Int) := by omega
      have hle2 : ((vs.length : Nat) : Int) ≤ ((cap : Nat) : Int) := by omega
      go_wp2_with fail
      go_ret2
      exact .inl ⟨rfl, f', _, vs, _, by omega, by omega, HM9.out.pop, HD.out⟩
end Go.Proofs.Ytimnhbndokfgnaa
