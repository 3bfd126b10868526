/- The looker: a pair is entered. -/
import Derived.Test.YtimnhbndokfgnaaSmMem
import Derived.Test.YtimnhbndokfgnaaOrdV
namespace Go.Proofs.Ytimnhbndokfgnaa
open Go.RowKit

theorem infoVis : (Try.prog.info? 149).map (fun i => (i.zero, i.size, i.bytes)) = some (some (.agg #[.int .i64 0, .int .i64 0, .int .i64 0, .int .i64 0, .int .i64 0, .int .i64 0, .int .i64 0]), 7, 56) := by kernel_rfl
def EnMid (w0 w1 : World) (vs : List Vis) (v : Vis) (ov v' : Value) (W : World) : Prop := ∃ W1, Below w1.heap.size w1 W1 ∧ W.ownsRow w0.heap.size 149 7 v' (vs.length + 1) (visLs vs.reverse ++ visL v) ∧ W1.grownBy W ov.ownBlock ∧ MovedTo W1 ov v'

set_option maxRecDepth 100000 in
set_option maxHeartbeats 4000000 in
theorem enter_any (w0 w : World) (lb g : Nat) (R : Nat → Nat) (s : St) (f : Nat) (ov : Value) (mb : Nat) (vs : List Vis) (tk : Pr → Option Int) (q : Pr) (h : LkM w0 w lb g R s ((f + 1 : Nat) : Int) ov mb vs tk) (hf : f + vs.length ≤ 1000000) :
    Calls Try.prog 85 #[.pointer (some ⟨lb, 0, none⟩), pk q] w fun e w' => e = .returned (.tuple #[]) ∧ ∃ ov', LkM w0 w' lb g R s (f : Nat) ov' mb (⟨q, s.len q.1, 0, f + 1⟩ :: vs) (putT tk q 9223372036854775807) := by
  obtain ⟨i0, hi, hz0, hz1, hz2⟩ := info_parts infoVis
  have HI := Lib.hid (And.intro hi (And.intro hz0 (And.intro hz1 hz2)))
  clear hi hz0 hz1 hz2
  obtain ⟨ao, cap, hov⟩ := own_dslice h.row
  subst hov
  obtain ⟨⟨a0, a1⟩, a2, a3⟩ := q
  obtain ⟨n, hn⟩ : ∃ n, n = s.len (a0, a1) := ⟨_, rfl⟩
  have HLA : Hid (∀ W, StW W g R s → Calls Try.prog 27 #[.pointer (some ⟨g, 0, none⟩), .agg #[.int .i64 a0, .int .i64 a1]] W fun e w' => e = .returned (.int .i64 ((n : Nat) : Int)) ∧ Below W.heap.size W w') := Lib.hid fun W hW => by rw [hn]; exact stlen_any g R s (a0, a1) W hW
  have HN := Lib.hid hn
  show Calls _ _ _ _ fun e w' => e = .returned (.tuple #[]) ∧ ∃ ov', LkM w0 w' lb g R s (f : Nat) ov' mb (⟨((a0, a1), (a2, a3)), s.len (a0, a1), 0, f + 1⟩ :: vs) (putT tk ((a0, a1), (a2, a3)) 9223372036854775807)
  rw [← hn]
  have hb1 := below1 w (.cells #[.int .i64 a0, .int .i64 a1, .int .i64 a2, .int .i64 a3] 126)
  have HM1 := Lib.hid (h.below hb1)
  have HN0 := Lib.hid (box1 w #[.int .i64 a0, .int .i64 a1, .int .i64 a2, .int .i64 a3] 126)
  have HPB : Hid (w.heap.size ≠ lb ∧ w.heap.size ≠ mb ∧ R w.heap.size = 0) := Lib.hid ⟨fun e => by have := h.lt; omega, fun e => by have := h.mlt; omega, Classical.byContradiction fun hn => by have := h.st.lt _ hn; omega⟩
  have HPO : Hid (∀ b, (Value.slice ao vs.length cap).ownBlock = some b → b ≠ w.heap.size) := Lib.hid fun b hb e => by have := (h.row.lt b hb).2; omega
  clear h hb1 hn
  unfold pk
  go_enter Try.func85, Try.ntmps85
  go_upto_region 1 with fail
  generalize w.alloc (.cells #[.int .i64 a0, .int .i64 a1, .int .i64 a2, .int .i64 a3] 126) = w1 at *
  generalize w.heap.size = pb at *
  have HX : Hid (∀ W, Below w1.heap.size w1 W → (W.cell? ⟨lb, 0, none⟩ = some (.pointer (some ⟨g, 0, none⟩)) ∧ W.cell? ⟨lb, 1, none⟩ = some (.int .i64 ((f + 1 : Nat) : Int)) ∧ W.cell? ⟨lb, 2, none⟩ = some (.slice ao vs.length cap) ∧ W.cell? ⟨lb, 3, none⟩ = some (.map (some mb))) ∧ W.cell? ⟨pb, 0, none⟩ = some (.int .i64 a0) ∧ W.cell? ⟨pb, 1, none⟩ = some (.int .i64 a1) ∧ W.cell? ⟨pb, 2, none⟩ = some (.int .i64 a2) ∧ W.cell? ⟨pb, 3, none⟩ = some (.int .i64 a3)) := Lib.hid fun W hW => ⟨(HM1.out.below hW).cells.1, row4 ((hW.block pb (Array.getElem?_eq_some_iff.1 HN0.out).1).trans HN0.out)⟩
  refine wp_region_vals (fun L vals W => AllV [some (.pointer (some ⟨lb, 0, none⟩)), some (.pointer (some ⟨lb, 0, none⟩)), some (.pointer (some ⟨lb, 0, none⟩)), some (.pointer (some ⟨lb, 2, none⟩)), some (.slice ao vs.length cap), some (.agg #[.int .i64 a0, .int .i64 a1, .int .i64 a2, .int .i64 a3]), some (.pointer (some ⟨lb, 0, none⟩)), some (.pointer (some ⟨lb, 0, none⟩)), some (.pointer (some ⟨lb, 0, none⟩)), some (.pointer (some ⟨g, 0, none⟩)), some (.pointer (some ⟨pb, 0, none⟩)), some (.agg #[.int .i64 a0, .int .i64 a1]), some (.int .i64 ((n : Nat) : Int)), some (.pointer (some ⟨lb, 0, none⟩)), some (.pointer (some ⟨lb, 0, none⟩)), some (.pointer (some ⟨lb, 1, none⟩)), some (.int .i64 ((f + 1 : Nat) : Int)), some (.agg #[.int .i64 a0, .int .i64 a1, .int .i64 a2, .int .i64 a3, .int .i64 ((n : Nat) : Int), .int .i64 0, .int .i64 ((f + 1 : Nat) : Int)]), none, none, some (.pointer (some ⟨lb, 0, none⟩)), some (.pointer (some ⟨lb, 2, none⟩)), none] L vals ∧ Ph 19 22 (fun W => Below w1.heap.size w1 W) (fun v W => EnMid w0 w1 vs ⟨((a0, a1), (a2, a3)), n, 0, f + 1⟩ (.slice ao vs.length cap) v W) (fun v W => LkM w0 W lb g R s ((f + 1 : Nat) : Int) v mb (⟨((a0, a1), (a2, a3)), n, 0, f + 1⟩ :: vs) tk ∧ W.heap[pb]? = some (.cells #[.int .i64 a0, .int .i64 a1, .int .i64 a2, .int .i64 a3] 126 (0, 0))) L vals W ∧ Ph 18 19 (fun _ => True) (fun v W => ∃ b, v = .slice (some ⟨b, 0, none⟩) 1 1 ∧ W.heap[b]? = some (.cells #[.int .i64 a0, .int .i64 a1, .int .i64 a2, .int .i64 a3, .int .i64 ((n : Nat) : Int), .int .i64 0, .int .i64 ((f + 1 : Nat) : Int)] 149 (0, 0))) (fun _ _ => True) L vals W) (by kernel_rfl) ?_ (by kernel_rfl) (by kernel_rfl) ?_ ?_
  · exact ⟨AllV.start _ _, Ph.start (Below.refl _ _).drew, Ph.start trivial⟩
  · refine AllOps.cons ?_ ?_
    · intro L vals aa W hC hB hL hD hdep
      obtain ⟨hV, hP0, hP1⟩ := hC
      refine .inl ⟨rfl, ?_⟩
      have b0 : aa.tmps.getD 0 undef = .pointer (some ⟨lb, 0, none⟩) := hB.off 0 (by kernel_rfl)
      refine goesV_value (v := .pointer (some ⟨lb, 0, none⟩)) ?_ ⟨hV.fix rfl, hP0.idle (by decide) (by decide) _, hP1.idle (by decide) (by decide) _⟩
      simp only [execOp, Act.eval, b0]
      go_simp
    refine AllOps.cons ?_ ?_
    · intro L vals aa W hC hB hL hD hdep
      obtain ⟨hV, hP0, hP1⟩ := hC
      refine .inl ⟨rfl, ?_⟩
      have b0 : aa.tmps.getD 0 undef = .pointer (some ⟨lb, 0, none⟩) := hB.off 0 (by kernel_rfl)
      refine goesV_value (v := .pointer (some ⟨lb, 0, none⟩)) ?_ ⟨hV.fix rfl, hP0.idle (by decide) (by decide) _, hP1.idle (by decide) (by decide) _⟩
      simp only [execOp, Act.eval, b0]
      go_simp
    refine AllOps.cons ?_ ?_
    · intro L vals aa W hC hB hL hD hdep
      obtain ⟨hV, hP0, hP1⟩ := hC
      refine .inl ⟨rfl, ?_⟩
      have e0 : aa.tmps.getD 5 undef = .pointer (some ⟨lb, 0, none⟩) := hV.at (j := 1) rfl (hdep 1 5 (by kernel_rfl))
      refine goesV_value (v := .pointer (some ⟨lb, 0, none⟩)) ?_ ⟨hV.fix rfl, hP0.idle (by decide) (by decide) _, hP1.idle (by decide) (by decide) _⟩
      simp only [execOp, Act.eval, e0]
      go_simp
    refine AllOps.cons ?_ ?_
    · intro L vals aa W hC hB hL hD hdep
      obtain ⟨hV, hP0, hP1⟩ := hC
      refine .inl ⟨rfl, ?_⟩
      have e0 : aa.tmps.getD 6 undef = .pointer (some ⟨lb, 0, none⟩) := hV.at (j := 2) rfl (hdep 2 6 (by kernel_rfl))
      refine goesV_value (v := .pointer (some ⟨lb, 2, none⟩)) ?_ ⟨hV.fix rfl, hP0.idle (by decide) (by decide) _, hP1.idle (by decide) (by decide) _⟩
      simp only [execOp, Act.eval, e0]
      go_simp
    refine AllOps.cons ?_ ?_
    · intro L vals aa W hC hB hL hD hdep
      obtain ⟨hV, hP0, hP1⟩ := hC
      refine .inl ⟨rfl, ?_⟩
      have e0 : aa.tmps.getD 7 undef = .pointer (some ⟨lb, 2, none⟩) := hV.at (j := 3) rfl (hdep 3 7 (by kernel_rfl))
      have hpre := hP0.pre (hD 19 (by kernel_rfl))
      obtain ⟨⟨c0, c1, c2, c3⟩, p0, p1, p2, p3⟩ := HX.out W hpre
      refine goesV_value (v := .slice ao vs.length cap) ?_ ⟨hV.fix rfl, hP0.idle (by decide) (by decide) _, hP1.idle (by decide) (by decide) _⟩
      simp only [execOp, Act.eval, e0]
      go_simp
    refine AllOps.cons ?_ ?_
    · intro L vals aa W hC hB hL hD hdep
      obtain ⟨hV, hP0, hP1⟩ := hC
      refine .inl ⟨rfl, ?_⟩
      have b0 : aa.tmps.getD 3 undef = .pointer (some ⟨pb, 0, none⟩) := hB.off 3 (by kernel_rfl)
      have hpre := hP0.pre (hD 19 (by kernel_rfl))
      obtain ⟨⟨c0, c1, c2, c3⟩, p0, p1, p2, p3⟩ := HX.out W hpre
      refine goesV_value (v := .agg #[.int .i64 a0, .int .i64 a1, .int .i64 a2, .int .i64 a3]) ?_ ⟨hV.fix rfl, hP0.idle (by decide) (by decide) _, hP1.idle (by decide) (by decide) _⟩
      simp only [execOp, Act.eval, b0]
      go_simp
    refine AllOps.cons ?_ ?_
    · intro L vals aa W hC hB hL hD hdep
      obtain ⟨hV, hP0, hP1⟩ := hC
      refine .inl ⟨rfl, ?_⟩
      have b0 : aa.tmps.getD 0 undef = .pointer (some ⟨lb, 0, none⟩) := hB.off 0 (by kernel_rfl)
      refine goesV_value (v := .pointer (some ⟨lb, 0, none⟩)) ?_ ⟨hV.fix rfl, hP0.idle (by decide) (by decide) _, hP1.idle (by decide) (by decide) _⟩
      simp only [execOp, Act.eval, b0]
      go_simp
    refine AllOps.cons ?_ ?_
    · intro L vals aa W hC hB hL hD hdep
      obtain ⟨hV, hP0, hP1⟩ := hC
      refine .inl ⟨rfl, ?_⟩
      have e0 : aa.tmps.getD 10 undef = .pointer (some ⟨lb, 0, none⟩) := hV.at (j := 6) rfl (hdep 6 10 (by kernel_rfl))
      refine goesV_value (v := .pointer (some ⟨lb, 0, none⟩)) ?_ ⟨hV.fix rfl, hP0.idle (by decide) (by decide) _, hP1.idle (by decide) (by decide) _⟩
      simp only [execOp, Act.eval, e0]
      go_simp
    refine AllOps.cons ?_ ?_
    · intro L vals aa W hC hB hL hD hdep
      obtain ⟨hV, hP0, hP1⟩ := hC
      refine .inl ⟨rfl, ?_⟩
      have e0 : aa.tmps.getD 11 undef = .pointer (some ⟨lb, 0, none⟩) := hV.at (j := 7) rfl (hdep 7 11 (by kernel_rfl))
      refine goesV_value (v := .pointer (some ⟨lb, 0, none⟩)) ?_ ⟨hV.fix rfl, hP0.idle (by decide) (by decide) _, hP1.idle (by decide) (by decide) _⟩
      simp only [execOp, Act.eval, e0]
      go_simp
    refine AllOps.cons ?_ ?_
    · intro L vals aa W hC hB hL hD hdep
      obtain ⟨hV, hP0, hP1⟩ := hC
      refine .inl ⟨rfl, ?_⟩
      have e0 : aa.tmps.getD 12 undef = .pointer (some ⟨lb, 0, none⟩) := hV.at (j := 8) rfl (hdep 8 12 (by kernel_rfl))
      have hpre := hP0.pre (hD 19 (by kernel_rfl))
      obtain ⟨⟨c0, c1, c2, c3⟩, p0, p1, p2, p3⟩ := HX.out W hpre
      refine goesV_value (v := .pointer (some ⟨g, 0, none⟩)) ?_ ⟨hV.fix rfl, hP0.idle (by decide) (by decide) _, hP1.idle (by decide) (by decide) _⟩
      simp only [execOp, Act.eval, e0]
      go_simp
    refine AllOps.cons ?_ ?_
    · intro L vals aa W hC hB hL hD hdep
      obtain ⟨hV, hP0, hP1⟩ := hC
      refine .inl ⟨rfl, ?_⟩
      have b0 : aa.tmps.getD 3 undef = .pointer (some ⟨pb, 0, none⟩) := hB.off 3 (by kernel_rfl)
      refine goesV_value (v := .pointer (some ⟨pb, 0, none⟩)) ?_ ⟨hV.fix rfl, hP0.idle (by decide) (by decide) _, hP1.idle (by decide) (by decide) _⟩
      simp only [execOp, Act.eval, b0]
      go_simp
    refine AllOps.cons ?_ ?_
    · intro L vals aa W hC hB hL hD hdep
      obtain ⟨hV, hP0, hP1⟩ := hC
      refine .inl ⟨rfl, ?_⟩
      have e0 : aa.tmps.getD 14 undef = .pointer (some ⟨pb, 0, none⟩) := hV.at (j := 10) rfl (hdep 10 14 (by kernel_rfl))
      have hpre := hP0.pre (hD 19 (by kernel_rfl))
      obtain ⟨⟨c0, c1, c2, c3⟩, p0, p1, p2, p3⟩ := HX.out W hpre
      refine goesV_value (v := .agg #[.int .i64 a0, .int .i64 a1]) ?_ ⟨hV.fix rfl, hP0.idle (by decide) (by decide) _, hP1.idle (by decide) (by decide) _⟩
      simp only [execOp, Act.eval, e0]
      go_simp
    refine AllOps.cons ?_ ?_
    · intro L vals aa W hC hB hL hD hdep
      obtain ⟨hV, hP0, hP1⟩ := hC
      refine .inl ⟨rfl, ?_⟩
      have e0 : aa.tmps.getD 13 undef = .pointer (some ⟨g, 0, none⟩) := hV.at (j := 9) rfl (hdep 9 13 (by kernel_rfl))
      have e1 : aa.tmps.getD 15 undef = .agg #[.int .i64 a0, .int .i64 a1] := hV.at (j := 11) rfl (hdep 11 15 (by kernel_rfl))
      have hpre := hP0.pre (hD 19 (by kernel_rfl))
      refine goesV_call (f := 27) (args := #[.pointer (some ⟨g, 0, none⟩), .agg #[.int .i64 a0, .int .i64 a1]]) ?_ ?_
      · simp only [execOp]
        go_simp
      · refine (HLA.out W (HM1.out.st.below hpre)).mono fun e w7 ⟨he, hb⟩ => ⟨_, he, hV.fix rfl, hP0.ahead (hD 19 (by kernel_rfl)) (by decide) (by decide) _ (hpre.trans (hb.mono hpre.size)), hP1.ahead (hD 18 (by kernel_rfl)) (by decide) (by decide) _ trivial⟩
    refine AllOps.cons ?_ ?_
    · intro L vals aa W hC hB hL hD hdep
      obtain ⟨hV, hP0, hP1⟩ := hC
      refine .inl ⟨rfl, ?_⟩
      have b0 : aa.tmps.getD 0 undef = .pointer (some ⟨lb, 0, none⟩) := hB.off 0 (by kernel_rfl)
      refine goesV_value (v := .pointer (some ⟨lb, 0, none⟩)) ?_ ⟨hV.fix rfl, hP0.idle (by decide) (by decide) _, hP1.idle (by decide) (by decide) _⟩
      simp only [execOp, Act.eval, b0]
      go_simp
    refine AllOps.cons ?_ ?_
    · intro L vals aa W hC hB hL hD hdep
      obtain ⟨hV, hP0, hP1⟩ := hC
      refine .inl ⟨rfl, ?_⟩
      have e0 : aa.tmps.getD 17 undef = .pointer (some ⟨lb, 0, none⟩) := hV.at (j := 13) rfl (hdep 13 17 (by kernel_rfl))
      refine goesV_value (v := .pointer (some ⟨lb, 0, none⟩)) ?_ ⟨hV.fix rfl, hP0.idle (by decide) (by decide) _, hP1.idle (by decide) (by decide) _⟩
      simp only [execOp, Act.eval, e0]
      go_simp
    refine AllOps.cons ?_ ?_
    · intro L vals aa W hC hB hL hD hdep
      obtain ⟨hV, hP0, hP1⟩ := hC
      refine .inl ⟨rfl, ?_⟩
      have e0 : aa.tmps.getD 18 undef = .pointer (some ⟨lb, 0, none⟩) := hV.at (j := 14) rfl (hdep 14 18 (by kernel_rfl))
      refine goesV_value (v := .pointer (some ⟨lb, 1, none⟩)) ?_ ⟨hV.fix rfl, hP0.idle (by decide) (by decide) _, hP1.idle (by decide) (by decide) _⟩
      simp only [execOp, Act.eval, e0]
      go_simp
    refine AllOps.cons ?_ ?_
    · intro L vals aa W hC hB hL hD hdep
      obtain ⟨hV, hP0, hP1⟩ := hC
      refine .inl ⟨rfl, ?_⟩
      have e0 : aa.tmps.getD 19 undef = .pointer (some ⟨lb, 1, none⟩) := hV.at (j := 15) rfl (hdep 15 19 (by kernel_rfl))
      have hpre := hP0.pre (hD 19 (by kernel_rfl))
      obtain ⟨⟨c0, c1, c2, c3⟩, p0, p1, p2, p3⟩ := HX.out W hpre
      refine goesV_value (v := .int .i64 ((f + 1 : Nat) : Int)) ?_ ⟨hV.fix rfl, hP0.idle (by decide) (by decide) _, hP1.idle (by decide) (by decide) _⟩
      simp only [execOp, Act.eval, e0]
      go_simp
    refine AllOps.cons ?_ ?_
    · intro L vals aa W hC hB hL hD hdep
      obtain ⟨hV, hP0, hP1⟩ := hC
      refine .inl ⟨rfl, ?_⟩
      have e0 : aa.tmps.getD 9 undef = .agg #[.int .i64 a0, .int .i64 a1, .int .i64 a2, .int .i64 a3] := hV.at (j := 5) rfl (hdep 5 9 (by kernel_rfl))
      have e1 : aa.tmps.getD 16 undef = .int .i64 ((n : Nat) : Int) := hV.at (j := 12) rfl (hdep 12 16 (by kernel_rfl))
      have e2 : aa.tmps.getD 20 undef = .int .i64 ((f + 1 : Nat) : Int) := hV.at (j := 16) rfl (hdep 16 20 (by kernel_rfl))
      refine goesV_value (v := .agg #[.int .i64 a0, .int .i64 a1, .int .i64 a2, .int .i64 a3, .int .i64 ((n : Nat) : Int), .int .i64 0, .int .i64 ((f + 1 : Nat) : Int)]) ?_ ⟨hV.fix rfl, hP0.idle (by decide) (by decide) _, hP1.idle (by decide) (by decide) _⟩
      simp only [Array.getD_eq_getD_getElem?] at e0 e1 e2
      simp only [execOp]
      go_simp
    refine AllOps.cons ?_ ?_
    · intro L vals aa W hC hB hL hD hdep
      obtain ⟨hV, hP0, hP1⟩ := hC
      refine .inl ⟨rfl, ?_⟩
      have e0 : aa.tmps.getD 21 undef = .agg #[.int .i64 a0, .int .i64 a1, .int .i64 a2, .int .i64 a3, .int .i64 ((n : Nat) : Int), .int .i64 0, .int .i64 ((f + 1 : Nat) : Int)] := hV.at (j := 17) rfl (hdep 17 21 (by kernel_rfl))
      have hpre := hP0.pre (hD 19 (by kernel_rfl))
      refine goesV_world (v := .slice (some ⟨W.heap.size, 0, none⟩) 1 1) (w1 := W.alloc (.cells #[.int .i64 a0, .int .i64 a1, .int .i64 a2, .int .i64 a3, .int .i64 ((n : Nat) : Int), .int .i64 0, .int .i64 ((f + 1 : Nat) : Int)] 149)) ?_ ⟨hV.free rfl, hP0.ahead (hD 19 (by kernel_rfl)) (by decide) (by decide) _ (hpre.trans ((below1 W _).mono hpre.size)), hP1.first hL (by decide) ⟨_, rfl, box1 W _ _⟩⟩
      simp only [Array.getD_eq_getD_getElem?] at e0
      simp only [execOp]
      go_simp
    refine AllOps.cons ?_ ?_
    · intro L vals aa W hC hB hL hD hdep
      obtain ⟨hV, hP0, hP1⟩ := hC
      refine .inl ⟨rfl, ?_⟩
      have e0 : aa.tmps.getD 8 undef = .slice ao vs.length cap := hV.at (j := 4) rfl (hdep 4 8 (by kernel_rfl))
      obtain ⟨l1, e1⟩ := hdep 18 22 (by kernel_rfl)
      have hpre := hP0.pre hL
      obtain ⟨nb, hnb, hcells⟩ := hP1.mid l1 hL
      rw [hnb] at e1
      have hn : ∀ j u, (visL ⟨((a0, a1), (a2, a3)), n, 0, f + 1⟩)[j]? = some u → W.cell? ((⟨nb, 0, none⟩ : Addr).add j) = some u := World.news_of_block hcells
      refine goesV_append _ _ 120 rfl w0.heap.size 149 i0 _ 7 56 Try.underlying120 HI.out.1 HI.out.2.1 HI.out.2.2.1 HI.out.2.2.2 rfl (by decide) (.slice ao vs.length cap) vs.length (visLs vs.reverse) e0 (HM1.out.below hpre).row ⟨nb, 0, none⟩ 1 1 (visL ⟨((a0, a1), (a2, a3)), n, 0, f + 1⟩) e1 rfl hn (by intro u hu; simp [visL] at hu; rcases hu with rfl | rfl | rfl | rfl | rfl | rfl | rfl <;> rfl) (by unfold maxLen; omega) (by omega) (Nat.le_trans HM1.out.bel.size hpre.size) ?_
      intro v5 w5 hown5 hgrow5 hmv5
      exact ⟨hV.free rfl, hP0.first hL (by decide) ⟨W, hpre, hown5, hgrow5, hmv5⟩, Ph.last l1 (by decide) _ trivial⟩
    refine AllOps.cons ?_ ?_
    · intro L vals aa W hC hB hL hD hdep
      obtain ⟨hV, hP0, hP1⟩ := hC
      refine .inl ⟨rfl, ?_⟩
      have e0 : aa.tmps.getD 4 undef = .pointer (some ⟨lb, 0, none⟩) := hV.at (j := 0) rfl (hdep 0 4 (by kernel_rfl))
      refine goesV_value (v := .pointer (some ⟨lb, 0, none⟩)) ?_ ⟨hV.fix rfl, hP0.idle (by decide) (by decide) _, hP1.idle (by decide) (by decide) _⟩
      simp only [execOp, Act.eval, e0]
      go_simp
    refine AllOps.cons ?_ ?_
    · intro L vals aa W hC hB hL hD hdep
      obtain ⟨hV, hP0, hP1⟩ := hC
      refine .inl ⟨rfl, ?_⟩
      have e0 : aa.tmps.getD 24 undef = .pointer (some ⟨lb, 0, none⟩) := hV.at (j := 20) rfl (hdep 20 24 (by kernel_rfl))
      refine goesV_value (v := .pointer (some ⟨lb, 2, none⟩)) ?_ ⟨hV.fix rfl, hP0.idle (by decide) (by decide) _, hP1.idle (by decide) (by decide) _⟩
      simp only [execOp, Act.eval, e0]
      go_simp
    refine AllOps.cons ?_ ?_
    · intro L vals aa W hC hB hL hD hdep
      obtain ⟨hV, hP0, hP1⟩ := hC
      refine .inl ⟨rfl, ?_⟩
      have e0 : aa.tmps.getD 25 undef = .pointer (some ⟨lb, 2, none⟩) := hV.at (j := 21) rfl (hdep 21 25 (by kernel_rfl))
      obtain ⟨l1, e1⟩ := hdep 19 23 (by kernel_rfl)
      obtain ⟨W1, hpre, hown5, hgrow5, hmv5⟩ := hP0.mid l1 hL
      have hM5 := (HM1.out.below hpre).push (v := ⟨((a0, a1), (a2, a3)), n, 0, f + 1⟩) hown5 hgrow5 hmv5
      have hbx := (hgrow5.block lb (HM1.out.below hpre).lt (fun e => ((HM1.out.oR lb e.symm).2.1 rfl).elim)).trans (HM1.out.below hpre).box
      have z2 : W.frozen? ⟨lb, 2, none⟩ = false := frozen_heap hbx 2
      have c2 : W.cell? ⟨lb, 2, none⟩ = some (.slice ao vs.length cap) := cell_heap hbx 2
      have hpb5 := (hgrow5.block pb (Nat.lt_of_lt_of_le (Array.getElem?_eq_some_iff.1 HN0.out).1 hpre.size) (fun e => HPO.out pb e.symm rfl)).trans ((hpre.block pb (Array.getElem?_eq_some_iff.1 HN0.out).1).trans HN0.out)
      obtain ⟨vo5, vc5, hv5⟩ := own_dslice hown5
      have hpb6 := (Below.heap_setCell W ⟨lb, 2, none⟩ (.slice vo5 (vs.length + 1) vc5) pb HPB.out.1).trans hpb5
      rw [hv5] at e1 hM5
      refine goesV_skip (w1 := W.setCell ⟨lb, 2, none⟩ (.slice vo5 (vs.length + 1) vc5)) ?_ ⟨hV.free rfl, Ph.last l1 (by decide) _ (by rw [hv5]; exact ⟨hM5, hpb6⟩), Ph.done l1 (hP1.ord l1) (by decide) (by decide) _ trivial⟩
      simp only [Array.getD_eq_getD_getElem?] at e0 e1
      simp only [execOp, Act.eval]
      go_simp
    exact trivial
  · intro L vals aa w8 hC hLL hB hall
    obtain ⟨hV, hP0, hP1⟩ := hC
    have hv : ∀ p ∈ [((4 : Nat), (.pointer (some ⟨lb, 0, none⟩) : Value)), ((5 : Nat), (.pointer (some ⟨lb, 0, none⟩) : Value)), ((6 : Nat), (.pointer (some ⟨lb, 0, none⟩) : Value)), ((7 : Nat), (.pointer (some ⟨lb, 2, none⟩) : Value)), ((8 : Nat), (.slice ao vs.length cap : Value)), ((9 : Nat), (.agg #[.int .i64 a0, .int .i64 a1, .int .i64 a2, .int .i64 a3] : Value)), ((10 : Nat), (.pointer (some ⟨lb, 0, none⟩) : Value)), ((11 : Nat), (.pointer (some ⟨lb, 0, none⟩) : Value)), ((12 : Nat), (.pointer (some ⟨lb, 0, none⟩) : Value)), ((13 : Nat), (.pointer (some ⟨g, 0, none⟩) : Value)), ((14 : Nat), (.pointer (some ⟨pb, 0, none⟩) : Value)), ((15 : Nat), (.agg #[.int .i64 a0, .int .i64 a1] : Value)), ((16 : Nat), (.int .i64 ((n : Nat) : Int) : Value)), ((17 : Nat), (.pointer (some ⟨lb, 0, none⟩) : Value)), ((18 : Nat), (.pointer (some ⟨lb, 0, none⟩) : Value)), ((19 : Nat), (.pointer (some ⟨lb, 1, none⟩) : Value)), ((20 : Nat), (.int .i64 ((f + 1 : Nat) : Int) : Value)), ((21 : Nat), (.agg #[.int .i64 a0, .int .i64 a1, .int .i64 a2, .int .i64 a3, .int .i64 ((n : Nat) : Int), .int .i64 0, .int .i64 ((f + 1 : Nat) : Int)] : Value)), ((22 : Nat), (vals 18 : Value)), ((23 : Nat), (vals 19 : Value)), ((24 : Nat), (.pointer (some ⟨lb, 0, none⟩) : Value)), ((25 : Nat), (.pointer (some ⟨lb, 2, none⟩) : Value))], aa.tmps.getD p.1 undef = p.2 := by
      intro p hp
      simp only [List.mem_cons, List.not_mem_nil, or_false] at hp
      rcases hp with rfl | rfl | rfl | rfl | rfl | rfl | rfl | rfl | rfl | rfl | rfl | rfl | rfl | rfl | rfl | rfl | rfl | rfl | rfl | rfl | rfl | rfl
      · exact (hall 0 _ rfl _ rfl).trans (hV 0 _ rfl (hLL 0 (Nat.le_of_ble_eq_true rfl)))
      · exact (hall 1 _ rfl _ rfl).trans (hV 1 _ rfl (hLL 1 (Nat.le_of_ble_eq_true rfl)))
      · exact (hall 2 _ rfl _ rfl).trans (hV 2 _ rfl (hLL 2 (Nat.le_of_ble_eq_true rfl)))
      · exact (hall 3 _ rfl _ rfl).trans (hV 3 _ rfl (hLL 3 (Nat.le_of_ble_eq_true rfl)))
      · exact (hall 4 _ rfl _ rfl).trans (hV 4 _ rfl (hLL 4 (Nat.le_of_ble_eq_true rfl)))
      · exact (hall 5 _ rfl _ rfl).trans (hV 5 _ rfl (hLL 5 (Nat.le_of_ble_eq_true rfl)))
      · exact (hall 6 _ rfl _ rfl).trans (hV 6 _ rfl (hLL 6 (Nat.le_of_ble_eq_true rfl)))
      · exact (hall 7 _ rfl _ rfl).trans (hV 7 _ rfl (hLL 7 (Nat.le_of_ble_eq_true rfl)))
      · exact (hall 8 _ rfl _ rfl).trans (hV 8 _ rfl (hLL 8 (Nat.le_of_ble_eq_true rfl)))
      · exact (hall 9 _ rfl _ rfl).trans (hV 9 _ rfl (hLL 9 (Nat.le_of_ble_eq_true rfl)))
      · exact (hall 10 _ rfl _ rfl).trans (hV 10 _ rfl (hLL 10 (Nat.le_of_ble_eq_true rfl)))
      · exact (hall 11 _ rfl _ rfl).trans (hV 11 _ rfl (hLL 11 (Nat.le_of_ble_eq_true rfl)))
      · exact (hall 12 _ rfl _ rfl).trans (hV 12 _ rfl (hLL 12 (Nat.le_of_ble_eq_true rfl)))
      · exact (hall 13 _ rfl _ rfl).trans (hV 13 _ rfl (hLL 13 (Nat.le_of_ble_eq_true rfl)))
      · exact (hall 14 _ rfl _ rfl).trans (hV 14 _ rfl (hLL 14 (Nat.le_of_ble_eq_true rfl)))
      · exact (hall 15 _ rfl _ rfl).trans (hV 15 _ rfl (hLL 15 (Nat.le_of_ble_eq_true rfl)))
      · exact (hall 16 _ rfl _ rfl).trans (hV 16 _ rfl (hLL 16 (Nat.le_of_ble_eq_true rfl)))
      · exact (hall 17 _ rfl _ rfl).trans (hV 17 _ rfl (hLL 17 (Nat.le_of_ble_eq_true rfl)))
      · exact hall 18 _ rfl _ rfl
      · exact hall 19 _ rfl _ rfl
      · exact (hall 20 _ rfl _ rfl).trans (hV 20 _ rfl (hLL 20 (Nat.le_of_ble_eq_true rfl)))
      · exact (hall 21 _ rfl _ rfl).trans (hV 21 _ rfl (hLL 21 (Nat.le_of_ble_eq_true rfl)))
    have hact := act_fold _ hB hv (by kernel_rfl)
    subst hact
    have hfin := hP0.fin (hLL 22 (Nat.le_of_ble_eq_true rfl))
    clear hv hall hB hV hLL hP0 hP1
    refine (‹∀ (a : Act) (w : World), Code.wp Try.prog _ _ a w → _›) _ w8 ?_
    simp only [List.foldl, List.setIfInBounds_toArray, List.set_cons_succ, List.set_cons_zero]
    generalize vals 18 = x18 at *
    generalize vals 19 = x19 at *
    obtain ⟨hfin, hpb8⟩ := hfin
    have hm8 := hfin.below ((Below.refl w8.heap.size w8).drew)
    obtain ⟨⟨c0, c1, c2, c3⟩, z1, z2⟩ := hfin.cells
    obtain ⟨p0, p1, p2, p3⟩ := row4 hpb8
    obtain ⟨w9, hrun, hmt, hkp, ho, ht, hu⟩ := hm8.map.put ((a0, a1), (a2, a3)) 9223372036854775807
    have HM9 := Lib.hid (hm8.mapped hkp ho ht hu hmt)
    unfold pk at hrun
    clear hmt hkp ho ht hu hm8 hfin hpb8
    go_wp2_with fail
    go_region
    clear c0 c1 c2 c3 z1 z2 p0 p1 p2 p3 hrun
    obtain ⟨⟨c0, c1, c2, c3⟩, z1, z2⟩ := HM9.out.cells
    have hwr : IntKind.i64.wrap (((f + 1 : Nat) : Int) - 1) = ((f : Nat) : Int) := by rw [IntKind.wrap_i64]; omega
    go_wp2_with fail
    go_end0
    exact ⟨rfl, _, HM9.out.fuel _⟩
end Go.Proofs.Ytimnhbndokfgnaa
