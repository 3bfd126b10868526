/- rib.entryOf, enter, Put, seek, Find, Free, Bound. -/
import Derived.Test.YtegengnffdlplaaGreatDoorRbWrt
import Derived.Test.YtegengnffdlplaaGreatDoorSxJn
namespace Go.Proofs.YtegengnffdlplaaGreatDoor
open Go.RowKit

/-- What is looked up in ribs. -/
theorem RbW.look {w : World} {g : Nat} {ob : Option Nat} {R G : Nat} {tk : Ek → Option Int} (h : RbW w g ob R G tk) (p : Ek) :
    (Instr.lookup 60 (.map ob) (ek p) false).run Tryz.prog w = .ok (.int .i64 ((tk p).getD 0)) w := by
  cases ob with
  | none => rw [h.non rfl p]; exact lookE_nil p w
  | some b =>
    rcases (h.map b rfl).2.look p with ⟨h1, h2⟩ | ⟨c, h1, h2⟩
    · rw [h1]; exact h2
    · rw [h1]; exact h2
theorem below_of_keep {B b : Nat} {w w' : World} (h : Keeps (fun x => x ≠ b) w w') (hb : B ≤ b) (hs : B ≤ w.heap.size) (h1 : w'.os = w.os) (h2 : w'.tape = w.tape) (h3 : w'.output = w.output) : Below B w w' := by
  exact ⟨h1, h2, h3, h.1, fun k hk => h.2 k (by omega) (by omega)⟩
theorem put3 {W : World} {g : Nat} {a0 a1 a2 : Value} {e : TypeId} (h : W.heap[g]? = some (.cells #[a0, a1, a2] e (0, 0))) (b0 b1 b2 : Value) : (((W.setCell ⟨g, 0, none⟩ b0).setCell ⟨g, 1, none⟩ b1).setCell ⟨g, 2, none⟩ b2).heap[g]? = some (.cells #[b0, b1, b2] e (0, 0)) := (rowSet (rowSet (rowSet h 0 b0) 1 b1) 2 b2).trans (by simp)

set_option maxRecDepth 100000 in
set_option maxHeartbeats 4000000 in
theorem entryof_any (b : Int) (D : Sx) (us : List Value) (w : World) (hd : SLay w D us) (ht : D.t.size ≤ 100000000) (hl : D.m.length ≤ 1000000) :
    Calls Tryz.prog 35 #[.int .i64 b, .agg us.toArray] w fun e w' => e = .returned (ek (b, D.t, wrt D.m)) ∧ Below w.heap.size w w' := by
  obtain ⟨kx, tx, nx, xo, xn, xc, yo, yn, yc, ax, po, pn, pc, qo, qn, qc, rfl⟩ := sx_shapes hd
  have HM : Hid (Iz w (.slice po pn pc) D.m ∧ tx = D.t) := Lib.hid (by
    obtain ⟨lv, av, mv, sv, vs, he, _, _, _, _, hm, hs, _⟩ := hd.open'
    simp only [List.cons.injEq, and_true] at he
    obtain ⟨_, e1, _, _, _, _, e6, e7⟩ := he
    rw [e6]
    exact ⟨hm, by injection e1⟩)
  have hte := HM.out.2
  rw [← hte] at ht ⊢
  have HTS := Lib.hid (And.intro ht hl)
  have HM := Lib.hid HM.out.1
  clear hd hte ht hl
  generalize D.m = mm at *
  have hb1 := below2 w (.cells #[.int .i64 kx, .string tx, .bool nx, .slice xo xn xc, .slice yo yn yc, .int .i64 ax, .slice po pn pc, .slice qo qn qc] 29) (.cells #[.int .i64 0, .string ⟨#[]⟩, .string ⟨#[]⟩] 68)
  have hn1 := @newsd2 w (.cells #[.int .i64 kx, .string tx, .bool nx, .slice xo xn xc, .slice yo yn yc, .int .i64 ax, .slice po pn pc, .slice qo qn qc] 29) (.cells #[.int .i64 0, .string ⟨#[]⟩, .string ⟨#[]⟩] 68)
  show Calls Tryz.prog 35 #[.int .i64 b, .agg #[.int .i64 kx, .string tx, .bool nx, .slice xo xn xc, .slice yo yn yc, .int .i64 ax, .slice po pn pc, .slice qo qn qc]] w _
  go_enter Tryz.func35, Tryz.ntmps35
  go_upto_region 1 with fail
  generalize (w.alloc (.cells #[.int .i64 kx, .string tx, .bool nx, .slice xo xn xc, .slice yo yn yc, .int .i64 ax, .slice po pn pc, .slice qo qn qc] 29)).alloc (.cells #[.int .i64 0, .string ⟨#[]⟩, .string ⟨#[]⟩] 68) = W1 at *
  have HB1 := Lib.hid hb1
  have HX := Lib.hid hn1.1
  have HZ := Lib.hid hn1.2
  have HLT := Lib.hid (And.intro (Array.getElem?_eq_some_iff.1 hn1.1).1 (Array.getElem?_eq_some_iff.1 hn1.2).1)
  clear hb1 hn1
  refine wp_region_late 8 7 7 12 12 (psi [isV (.int .i64 b), isV (.pointer (some ⟨w.heap.size, 1, none⟩)), isV (.string tx), isV (.string tx), isV (.pointer (some ⟨w.heap.size, 6, none⟩)), isV (.slice po pn pc), isV (.string (wrt mm)), isV (.agg #[.int .i64 b, .string tx, .string (wrt mm)]), nothing]) (fun W => Below W1.heap.size W1 W) (fun _ _ W0 W' => W' = ((W0.setCell ⟨w.heap.size + 1, 0, none⟩ (.int .i64 b)).setCell ⟨w.heap.size + 1, 1, none⟩ (.string tx)).setCell ⟨w.heap.size + 1, 2, none⟩ (.string (wrt mm))) (by kernel_rfl) (Below.refl _ _).drew (psi_mono ?_) (by kernel_rfl) (by kernel_rfl) (by kernel_rfl) ?_ ?_
  · intro pq hp
    simp only [List.mem_cons, List.not_mem_nil, or_false] at hp
    (repeat' rcases hp with rfl | hp) <;> first | exact isV_stays _ | exact nothing_stays | (subst hp; first | exact isV_stays _ | exact nothing_stays)
  · refine AllOps.cons ?_ ?_
    · refine OpL.early (by kernel_rfl) (by kernel_rfl) fun ab W hC hB hdep => ?_
      refine .inl ⟨rfl, ?_⟩
      have b0 : ab.tmps.getD 0 undef = .int .i64 b := hB.off 0 (by kernel_rfl)
      clear hB hdep
      refine goes_value (v := .int .i64 b) ?_ hC rfl
      simp only [execOp, Act.eval, b0]
      go_simp
    refine AllOps.cons ?_ ?_
    · refine OpL.early (by kernel_rfl) (by kernel_rfl) fun ab W hC hB hdep => ?_
      refine .inl ⟨rfl, ?_⟩
      have b0 : ab.tmps.getD 3 undef = .pointer (some ⟨w.heap.size, 0, none⟩) := hB.off 3 (by kernel_rfl)
      clear hB hdep
      refine goes_value (v := .pointer (some ⟨w.heap.size, 1, none⟩)) ?_ hC rfl
      simp only [execOp, Act.eval, b0]
      go_simp
    refine AllOps.cons ?_ ?_
    · refine OpL.early (by kernel_rfl) (by kernel_rfl) fun ab W hC hB hdep => ?_
      refine .inl ⟨rfl, ?_⟩
      obtain ⟨x0, (q0 : (isV (.pointer (some ⟨w.heap.size, 1, none⟩))) x0 W), e0⟩ := hdep 1 6 (by kernel_rfl)
      obtain rfl : x0 = .pointer (some ⟨w.heap.size, 1, none⟩) := q0
      obtain ⟨c0, c1, c2, c3, c4, c5, c6, c7⟩ := rowS8 ((hC.block _ HLT.out.1).trans HX.out)
      clear hB hdep
      refine goes_value (v := .string tx) ?_ hC rfl
      simp only [execOp, Act.eval, e0]
      go_simp
    refine AllOps.cons ?_ ?_
    · refine OpL.early (by kernel_rfl) (by kernel_rfl) fun ab W hC hB hdep => ?_
      refine .inl ⟨rfl, ?_⟩
      obtain ⟨x0, (q0 : (isV (.string tx)) x0 W), e0⟩ := hdep 2 7 (by kernel_rfl)
      obtain rfl : x0 = .string tx := q0
      clear hB hdep
      refine goes_call (f := 46) (args := #[.string tx]) ?_ ?_
      · simp only [execOp]
        go_simp
      · exact (sclone_any tx W HTS.out.1).mono fun e w7 ⟨he, hb⟩ => ⟨_, he, hC.trans (hb.mono hC.size), hb, rfl⟩
    refine AllOps.cons ?_ ?_
    · refine OpL.early (by kernel_rfl) (by kernel_rfl) fun ab W hC hB hdep => ?_
      refine .inl ⟨rfl, ?_⟩
      have b0 : ab.tmps.getD 3 undef = .pointer (some ⟨w.heap.size, 0, none⟩) := hB.off 3 (by kernel_rfl)
      clear hB hdep
      refine goes_value (v := .pointer (some ⟨w.heap.size, 6, none⟩)) ?_ hC rfl
      simp only [execOp, Act.eval, b0]
      go_simp
    refine AllOps.cons ?_ ?_
    · refine OpL.early (by kernel_rfl) (by kernel_rfl) fun ab W hC hB hdep => ?_
      refine .inl ⟨rfl, ?_⟩
      obtain ⟨x0, (q0 : (isV (.pointer (some ⟨w.heap.size, 6, none⟩))) x0 W), e0⟩ := hdep 4 9 (by kernel_rfl)
      obtain rfl : x0 = .pointer (some ⟨w.heap.size, 6, none⟩) := q0
      obtain ⟨c0, c1, c2, c3, c4, c5, c6, c7⟩ := rowS8 ((hC.block _ HLT.out.1).trans HX.out)
      clear hB hdep
      refine goes_value (v := .slice po pn pc) ?_ hC rfl
      simp only [execOp, Act.eval, e0]
      go_simp
    refine AllOps.cons ?_ ?_
    · refine OpL.early (by kernel_rfl) (by kernel_rfl) fun ab W hC hB hdep => ?_
      refine .inl ⟨rfl, ?_⟩
      obtain ⟨x0, (q0 : (isV (.slice po pn pc)) x0 W), e0⟩ := hdep 5 10 (by kernel_rfl)
      obtain rfl : x0 = .slice po pn pc := q0
      clear hB hdep
      refine goes_call (f := 37) (args := #[.slice po pn pc]) ?_ ?_
      · simp only [execOp]
        go_simp
      · exact (rwritten_any _ mm W (HM.out.below (HB1.out.trans (hC.mono HB1.out.size))) HTS.out.2).mono fun e w7 ⟨he, hb⟩ => ⟨_, he, hC.trans (hb.mono hC.size), hb, rfl⟩
    refine AllOps.cons ?_ ?_
    · refine OpL.early (by kernel_rfl) (by kernel_rfl) fun ab W hC hB hdep => ?_
      refine .inl ⟨rfl, ?_⟩
      obtain ⟨x0, (q0 : (isV (.int .i64 b)) x0 W), e0⟩ := hdep 0 5 (by kernel_rfl)
      obtain rfl : x0 = .int .i64 b := q0
      obtain ⟨x1, (q1 : (isV (.string tx)) x1 W), e1⟩ := hdep 3 8 (by kernel_rfl)
      obtain rfl : x1 = .string tx := q1
      obtain ⟨x2, (q2 : (isV (.string (wrt mm))) x2 W), e2⟩ := hdep 6 11 (by kernel_rfl)
      obtain rfl : x2 = .string (wrt mm) := q2
      clear hB hdep
      refine goes_value (v := .agg #[.int .i64 b, .string tx, .string (wrt mm)]) ?_ hC rfl
      simp only [Array.getD_eq_getD_getElem?] at e0 e1 e2
      simp only [execOp]
      go_simp
    refine AllOps.cons ?_ ?_
    · refine OpL.write (by kernel_rfl) fun vals ab W hC hB hdep => ⟨rfl, ?_⟩
      obtain ⟨(q0 : (isV (.agg #[.int .i64 b, .string tx, .string (wrt mm)])) (vals 7) W), e0⟩ := hdep 7 12 (by kernel_rfl)
      generalize vals 7 = x0 at *
      obtain rfl : x0 = .agg #[.int .i64 b, .string tx, .string (wrt mm)] := q0
      have b0 : ab.tmps.getD 4 undef = .pointer (some ⟨w.heap.size + 1, 0, none⟩) := hB.off 4 (by kernel_rfl)
      clear hB hdep
      have hzz := (hC.block _ HLT.out.2).trans HZ.out
      have z0 := frozen_heap hzz 0
      have z1 := frozen_heap hzz 1
      have z2 := frozen_heap hzz 2
      have c0 := cell_heap hzz 0
      have c1 := cell_heap hzz 1
      have c2 := cell_heap hzz 2
      refine writes_skip (w1 := ((W.setCell ⟨w.heap.size + 1, 0, none⟩ (.int .i64 b)).setCell ⟨w.heap.size + 1, 1, none⟩ (.string tx)).setCell ⟨w.heap.size + 1, 2, none⟩ (.string (wrt mm))) ?_ rfl
      simp only [execOp, Act.eval, e0, b0]
      go_simp
    exact trivial
  · intro vals aa W0 w8 hC hFin hB hall
    obtain ⟨(k0 : (isV (.int .i64 b)) (vals 0) W0), e0⟩ := hall 0 _ rfl (by decide)
    obtain ⟨(k1 : (isV (.pointer (some ⟨w.heap.size, 1, none⟩))) (vals 1) W0), e1⟩ := hall 1 _ rfl (by decide)
    obtain ⟨(k2 : (isV (.string tx)) (vals 2) W0), e2⟩ := hall 2 _ rfl (by decide)
    obtain ⟨(k3 : (isV (.string tx)) (vals 3) W0), e3⟩ := hall 3 _ rfl (by decide)
    obtain ⟨(k4 : (isV (.pointer (some ⟨w.heap.size, 6, none⟩))) (vals 4) W0), e4⟩ := hall 4 _ rfl (by decide)
    obtain ⟨(k5 : (isV (.slice po pn pc)) (vals 5) W0), e5⟩ := hall 5 _ rfl (by decide)
    obtain ⟨(k6 : (isV (.string (wrt mm))) (vals 6) W0), e6⟩ := hall 6 _ rfl (by decide)
    obtain ⟨(k7 : (isV (.agg #[.int .i64 b, .string tx, .string (wrt mm)])) (vals 7) W0), e7⟩ := hall 7 _ rfl (by decide)
    have hv : ∀ pq ∈ [((5 : Nat), (.int .i64 b : Value)), ((6 : Nat), (.pointer (some ⟨w.heap.size, 1, none⟩) : Value)), ((7 : Nat), (.string tx : Value)), ((8 : Nat), (.string tx : Value)), ((9 : Nat), (.pointer (some ⟨w.heap.size, 6, none⟩) : Value)), ((10 : Nat), (.slice po pn pc : Value)), ((11 : Nat), (.string (wrt mm) : Value)), ((12 : Nat), (.agg #[.int .i64 b, .string tx, .string (wrt mm)] : Value))], aa.tmps.getD pq.1 undef = pq.2 := by
      intro pq hp
      simp only [List.mem_cons, List.not_mem_nil, or_false] at hp
      rcases hp with rfl | rfl | rfl | rfl | rfl | rfl | rfl | rfl
      · exact (e0 _ rfl).trans k0
      · exact (e1 _ rfl).trans k1
      · exact (e2 _ rfl).trans k2
      · exact (e3 _ rfl).trans k3
      · exact (e4 _ rfl).trans k4
      · exact (e5 _ rfl).trans k5
      · exact (e6 _ rfl).trans k6
      · exact (e7 _ rfl).trans k7
    have hact := act_fold _ hB hv (by kernel_rfl)
    subst hact
    clear hv hall hB e0 e1 e2 e3 e4 e5 e6 e7
    refine (‹∀ (a : Act) (w : World), Code.wp Tryz.prog _ _ a w → _›) _ _ ?_
    simp only [List.foldl, List.setIfInBounds_toArray, List.set_cons_succ, List.set_cons_zero]
    subst hFin
    have hz8 := (hC.block _ HLT.out.2).trans HZ.out
    have hp := put3 hz8 (.int .i64 b) (.string tx) (.string (wrt mm))
    have hbel : Below w.heap.size w (((W0.setCell ⟨w.heap.size + 1, 0, none⟩ (.int .i64 b)).setCell ⟨w.heap.size + 1, 1, none⟩ (.string tx)).setCell ⟨w.heap.size + 1, 2, none⟩ (.string (wrt mm))) := (((HB1.out.trans (hC.mono HB1.out.size)).setCell (by simp) _).setCell (by simp) _).setCell (by simp) _
    have p0 := cell_heap hp 0
    have p1 := cell_heap hp 1
    have p2 := cell_heap hp 2
    have HP := Lib.hid hbel
    clear hz8 hp hbel hC
    go_wp2_with fail
    refine bodyPost_ret (v := .agg #[.int .i64 b, .string tx, .string (wrt mm)]) (by simp [results, Tryz.results35, go_sem, p0, p1, p2]) rfl ?_
    exact ⟨rfl, HP.out⟩

/-- What enter and Put leave. -/
def PtPost (g : Nat) (ob : Option Nat) (R G : Nat) (tk : Ek → Option Int) (p : Ek) (c : Int) (w : World) (e : Ending) (w' : World) : Prop :=
  ∃ ob', e = .returned (.int .i64 (if (tk p).getD 0 = 0 then 0 else 2)) ∧ RbW w' g ob' R G (if (tk p).getD 0 = 0 then putE tk p c else tk) ∧ RK g ob w w' ∧ (∀ b, ob' = some b → ob = some b ∨ w.heap.size ≤ b)

set_option maxRecDepth 100000 in
set_option maxHeartbeats 4000000 in
theorem enter_any (w : World) (g : Nat) (ob : Option Nat) (R G : Nat) (tk : Ek → Option Int) (h : RbW w g ob R G tk) (p : Ek) (c : Int) :
    Calls Tryz.prog 34 #[.pointer (some ⟨g, 0, none⟩), ek p, .int .i64 c] w (PtPost g ob R G tk p c w) := by
  obtain ⟨b, nm, ms⟩ := p
  have hE1 : ∀ (w : World), (binOp .eql 60 (.map none) (.map none)).run Tryz.prog w = .ok (.bool true) w := fun w => by kernel_rfl
  have hE2 : ∀ (b : Nat) (w : World), (binOp .eql 60 (.map (some b)) (.map none)).run Tryz.prog w = .ok (.bool false) w := fun b w => by kernel_rfl
  have hmm := @run_makeMap Tryz.prog
  obtain ⟨q, HQ⟩ : ∃ q, Hid ((tk (b, nm, ms)).getD 0 = q) := ⟨_, Lib.hid rfl⟩
  have hb1 := below1 w (.cells #[.int .i64 b, .string nm, .string ms] 68)
  have hn1 := heap_alloc_new w (.cells #[.int .i64 b, .string nm, .string ms] 68)
  have HGW := Lib.hid h.lt
  have HML : Hid (∀ b, ob = some b → b < w.heap.size) := Lib.hid fun b hb => h.mlt hb
  show Calls Tryz.prog 34 #[.pointer (some ⟨g, 0, none⟩), .agg #[.int .i64 b, .string nm, .string ms], .int .i64 c] w _
  go_enter Tryz.func34, Tryz.ntmps34
  go_upto_region 1 with fail
  generalize w.alloc (.cells #[.int .i64 b, .string nm, .string ms] 68) = w1 at *
  have HB1 := Lib.hid hb1
  have HNB := Lib.hid hn1
  have HLT := Lib.hid (Array.getElem?_eq_some_iff.1 hn1).1
  have HRB : Hid (∀ W, Below w1.heap.size w1 W → RbW W g ob R G tk) := Lib.hid fun W hW => (h.below hb1).below hW
  clear hb1 hn1 h
  refine wp_region_slotsG (psi [isV (.pointer (some ⟨g, 0, none⟩)), isV (.pointer (some ⟨g, 0, none⟩)), isV (.pointer (some ⟨g, 2, none⟩)), isV (.map ob), isV (.agg #[.int .i64 b, .string nm, .string ms]), isV (.int .i64 q), isV (.bool (q != 0))]) (fun W => Below w1.heap.size w1 W) (by kernel_rfl) (Below.refl _ _).drew (psi_mono ?_) (by kernel_rfl) (by kernel_rfl) ?_ ?_
  · intro pq hp
    simp only [List.mem_cons, List.not_mem_nil, or_false] at hp
    (repeat' rcases hp with rfl | hp) <;> first | exact isV_stays _ | (subst hp; exact isV_stays _)
  · refine AllOps.cons ?_ ?_
    · intro ab W hC hB hdep
      refine .inl ⟨rfl, ?_⟩
      have b0 : ab.tmps.getD 0 undef = .pointer (some ⟨g, 0, none⟩) := hB.off 0 (by kernel_rfl)
      clear hB hdep
      refine goes_value (v := .pointer (some ⟨g, 0, none⟩)) ?_ hC rfl
      simp only [execOp, Act.eval, b0]
      go_simp
    refine AllOps.cons ?_ ?_
    · intro ab W hC hB hdep
      refine .inl ⟨rfl, ?_⟩
      obtain ⟨x0, (q0 : (isV (.pointer (some ⟨g, 0, none⟩))) x0 W), e0⟩ := hdep 0 7 (by kernel_rfl)
      obtain rfl : x0 = .pointer (some ⟨g, 0, none⟩) := q0
      clear hB hdep
      refine goes_value (v := .pointer (some ⟨g, 0, none⟩)) ?_ hC rfl
      simp only [execOp, Act.eval, e0]
      go_simp
    refine AllOps.cons ?_ ?_
    · intro ab W hC hB hdep
      refine .inl ⟨rfl, ?_⟩
      obtain ⟨x0, (q0 : (isV (.pointer (some ⟨g, 0, none⟩))) x0 W), e0⟩ := hdep 1 8 (by kernel_rfl)
      obtain rfl : x0 = .pointer (some ⟨g, 0, none⟩) := q0
      clear hB hdep
      refine goes_value (v := .pointer (some ⟨g, 2, none⟩)) ?_ hC rfl
      simp only [execOp, Act.eval, e0]
      go_simp
    refine AllOps.cons ?_ ?_
    · intro ab W hC hB hdep
      refine .inl ⟨rfl, ?_⟩
      obtain ⟨x0, (q0 : (isV (.pointer (some ⟨g, 2, none⟩))) x0 W), e0⟩ := hdep 2 9 (by kernel_rfl)
      obtain rfl : x0 = .pointer (some ⟨g, 2, none⟩) := q0
      have c9 := cell_heap (HRB.out W hC).box 2
      clear hB hdep
      refine goes_value (v := .map ob) ?_ hC rfl
      simp only [execOp, Act.eval, e0]
      go_simp
    refine AllOps.cons ?_ ?_
    · intro ab W hC hB hdep
      refine .inl ⟨rfl, ?_⟩
      have b0 : ab.tmps.getD 4 undef = .pointer (some ⟨w.heap.size, 0, none⟩) := hB.off 4 (by kernel_rfl)
      have cN := (hC.block _ HLT.out).trans HNB.out; have e90 := cell_heap cN 0; have e91 := cell_heap cN 1; have e92 := cell_heap cN 2
      clear hB hdep
      refine goes_value (v := .agg #[.int .i64 b, .string nm, .string ms]) ?_ hC rfl
      simp only [execOp, Act.eval, b0]
      go_simp
    refine AllOps.cons ?_ ?_
    · intro ab W hC hB hdep
      refine .inl ⟨rfl, ?_⟩
      obtain ⟨x0, (q0 : (isV (.map ob)) x0 W), e0⟩ := hdep 3 10 (by kernel_rfl)
      obtain rfl : x0 = .map ob := q0
      obtain ⟨x1, (q1 : (isV (.agg #[.int .i64 b, .string nm, .string ms])) x1 W), e1⟩ := hdep 4 11 (by kernel_rfl)
      obtain rfl : x1 = .agg #[.int .i64 b, .string nm, .string ms] := q1
      have hlk := (HRB.out W hC).look (b, nm, ms); rw [HQ.out] at hlk; unfold ek at hlk; simp only at hlk
      clear hB hdep
      refine goes_value (v := .int .i64 q) ?_ hC rfl
      simp only [execOp, Act.eval, e0, e1]
      go_simp
    refine AllOps.cons ?_ ?_
    · intro ab W hC hB hdep
      refine .inl ⟨rfl, ?_⟩
      obtain ⟨x0, (q0 : (isV (.int .i64 q)) x0 W), e0⟩ := hdep 5 12 (by kernel_rfl)
      obtain rfl : x0 = .int .i64 q := q0
      clear hB hdep
      refine goes_value (v := .bool (q != 0)) ?_ hC rfl
      simp only [execOp, Act.eval, e0]
      go_simp
    exact trivial
  · intro aa w8 hC hB hall
    obtain ⟨v0, (k0 : v0 = .pointer (some ⟨g, 0, none⟩)), e0⟩ := hall 0 _ rfl
    obtain ⟨v1, (k1 : v1 = .pointer (some ⟨g, 0, none⟩)), e1⟩ := hall 1 _ rfl
    obtain ⟨v2, (k2 : v2 = .pointer (some ⟨g, 2, none⟩)), e2⟩ := hall 2 _ rfl
    obtain ⟨v3, (k3 : v3 = .map ob), e3⟩ := hall 3 _ rfl
    obtain ⟨v4, (k4 : v4 = .agg #[.int .i64 b, .string nm, .string ms]), e4⟩ := hall 4 _ rfl
    obtain ⟨v5, (k5 : v5 = .int .i64 q), e5⟩ := hall 5 _ rfl
    obtain ⟨v6, (k6 : v6 = .bool (q != 0)), e6⟩ := hall 6 _ rfl
    subst k0 k1 k2 k3 k4 k5 k6
    have hv : ∀ pq ∈ [((7 : Nat), (.pointer (some ⟨g, 0, none⟩) : Value)), ((8 : Nat), (.pointer (some ⟨g, 0, none⟩) : Value)), ((9 : Nat), (.pointer (some ⟨g, 2, none⟩) : Value)), ((10 : Nat), (.map ob : Value)), ((11 : Nat), (.agg #[.int .i64 b, .string nm, .string ms] : Value)), ((12 : Nat), (.int .i64 q : Value)), ((13 : Nat), (.bool (q != 0) : Value))], aa.tmps.getD pq.1 undef = pq.2 := by
      intro pq hp
      simp only [List.mem_cons, List.not_mem_nil, or_false] at hp
      rcases hp with rfl | rfl | rfl | rfl | rfl | rfl | rfl
      · exact e0 _ rfl
      · exact e1 _ rfl
      · exact e2 _ rfl
      · exact e3 _ rfl
      · exact e4 _ rfl
      · exact e5 _ rfl
      · exact e6 _ rfl
    have hact := act_fold _ hB hv (by kernel_rfl)
    subst hact
    clear hv hall hB e0 e1 e2 e3 e4 e5 e6
    refine (‹∀ (a : Act) (w : World), Code.wp Tryz.prog _ _ a w → _›) _ w8 ?_
    simp only [List.foldl, List.setIfInBounds_toArray, List.set_cons_succ, List.set_cons_zero]
    have HBw : Hid (Below w.heap.size w w8) := Lib.hid (HB1.out.trans (hC.mono HB1.out.size))
    have HR8 := Lib.hid (HRB.out w8 hC)
    have HN8 := Lib.hid ((hC.block _ HLT.out).trans HNB.out)
    clear hC
    by_cases h0 : q = 0
    case neg =>
      have hd : (q != 0) = true := by rw [bne_iff_ne]; exact h0
      have H0 := Lib.hid h0
      clear h0
      go_wp2_with fail
      go_ret
      unfold PtPost
      rw [HQ.out]
      exact ⟨ob, by rw [if_neg H0.out]; rfl, by rw [if_neg H0.out]; exact HR8.out, RK.of_below HBw.out, fun b h => .inl h⟩
    subst h0
    cases ob with
    | some mb =>
      have c9 := cell_heap HR8.out.box 2
      go_wp2_with fail
      clear c9
      generalize hw4 : w8 = w4 at *
      clear hw4
      have HRB2 : Hid (∀ W, Below w4.heap.size w4 W → RbW W g (some mb) R G tk) := Lib.hid fun W hW => HR8.out.below hW
      have HNB2 := Lib.hid HN8.out
      have HLT2 := Lib.hid (Array.getElem?_eq_some_iff.1 HN8.out).1
      refine wp_region_late 6 3 4 26 27 (psi [isV (.pointer (some ⟨g, 0, none⟩)), isV (.pointer (some ⟨g, 0, none⟩)), isV (.pointer (some ⟨g, 2, none⟩)), isV (.map (some mb)), isV (.agg #[.int .i64 b, .string nm, .string ms]), isV (.int .i64 c), nothing]) (fun W => Below w4.heap.size w4 W) (fun _ _ W0 W' => MapE W' mb (putE tk (b, nm, ms) c) ∧ Keeps (fun x => x ≠ mb) W0 W' ∧ W'.os = W0.os ∧ W'.tape = W0.tape ∧ W'.output = W0.output) (by kernel_rfl) (Below.refl _ _).drew (psi_mono ?_) (by kernel_rfl) (by kernel_rfl) (by kernel_rfl) ?_ ?_
      · intro pq hp
        simp only [List.mem_cons, List.not_mem_nil, or_false] at hp
        (repeat' rcases hp with rfl | hp) <;> first | exact isV_stays _ | exact nothing_stays | (subst hp; first | exact isV_stays _ | exact nothing_stays)
      · refine AllOps.cons ?_ ?_
        · refine OpL.early (by kernel_rfl) (by kernel_rfl) fun ab W hC hB hdep => ?_
          refine .inl ⟨rfl, ?_⟩
          have b0 : ab.tmps.getD 0 undef = .pointer (some ⟨g, 0, none⟩) := hB.off 0 (by kernel_rfl)
          clear hB hdep
          refine goes_value (v := .pointer (some ⟨g, 0, none⟩)) ?_ hC rfl
          simp only [execOp, Act.eval, b0]
          go_simp
        refine AllOps.cons ?_ ?_
        · refine OpL.early (by kernel_rfl) (by kernel_rfl) fun ab W hC hB hdep => ?_
          refine .inl ⟨rfl, ?_⟩
          obtain ⟨x0, (q0 : (isV (.pointer (some ⟨g, 0, none⟩))) x0 W), e0⟩ := hdep 0 23 (by kernel_rfl)
          obtain rfl : x0 = .pointer (some ⟨g, 0, none⟩) := q0
          clear hB hdep
          refine goes_value (v := .pointer (some ⟨g, 0, none⟩)) ?_ hC rfl
          simp only [execOp, Act.eval, e0]
          go_simp
        refine AllOps.cons ?_ ?_
        · refine OpL.early (by kernel_rfl) (by kernel_rfl) fun ab W hC hB hdep => ?_
          refine .inl ⟨rfl, ?_⟩
          obtain ⟨x0, (q0 : (isV (.pointer (some ⟨g, 0, none⟩))) x0 W), e0⟩ := hdep 1 24 (by kernel_rfl)
          obtain rfl : x0 = .pointer (some ⟨g, 0, none⟩) := q0
          clear hB hdep
          refine goes_value (v := .pointer (some ⟨g, 2, none⟩)) ?_ hC rfl
          simp only [execOp, Act.eval, e0]
          go_simp
        refine AllOps.cons ?_ ?_
        · refine OpL.early (by kernel_rfl) (by kernel_rfl) fun ab W hC hB hdep => ?_
          refine .inl ⟨rfl, ?_⟩
          obtain ⟨x0, (q0 : (isV (.pointer (some ⟨g, 2, none⟩))) x0 W), e0⟩ := hdep 2 25 (by kernel_rfl)
          obtain rfl : x0 = .pointer (some ⟨g, 2, none⟩) := q0
          have c9 := cell_heap (HRB2.out W hC).box 2
          clear hB hdep
          refine goes_value (v := .map (some mb)) ?_ hC rfl
          simp only [execOp, Act.eval, e0]
          go_simp
        refine AllOps.cons ?_ ?_
        · refine OpL.early (by kernel_rfl) (by kernel_rfl) fun ab W hC hB hdep => ?_
          refine .inl ⟨rfl, ?_⟩
          have b0 : ab.tmps.getD 4 undef = .pointer (some ⟨w.heap.size, 0, none⟩) := hB.off 4 (by kernel_rfl)
          have cN := (hC.block _ HLT2.out).trans HNB2.out; have e90 := cell_heap cN 0; have e91 := cell_heap cN 1; have e92 := cell_heap cN 2
          clear hB hdep
          refine goes_value (v := .agg #[.int .i64 b, .string nm, .string ms]) ?_ hC rfl
          simp only [execOp, Act.eval, b0]
          go_simp
        refine AllOps.cons ?_ ?_
        · refine OpL.early (by kernel_rfl) (by kernel_rfl) fun ab W hC hB hdep => ?_
          refine .inl ⟨rfl, ?_⟩
          have b0 : ab.tmps.getD 2 undef = .int .i64 c := hB.off 2 (by kernel_rfl)
          clear hB hdep
          refine goes_value (v := .int .i64 c) ?_ hC rfl
          simp only [execOp, Act.eval, b0]
          go_simp
        refine AllOps.cons ?_ ?_
        · refine OpL.write (by kernel_rfl) fun vals ab W hC hB hdep => ⟨rfl, ?_⟩
          obtain ⟨(q0 : (isV (.map (some mb))) (vals 3) W), e0⟩ := hdep 3 26 (by kernel_rfl)
          generalize vals 3 = x0 at *
          obtain rfl : x0 = .map (some mb) := q0
          obtain ⟨(q1 : (isV (.agg #[.int .i64 b, .string nm, .string ms])) (vals 4) W), e1⟩ := hdep 4 27 (by kernel_rfl)
          generalize vals 4 = x1 at *
          obtain rfl : x1 = .agg #[.int .i64 b, .string nm, .string ms] := q1
          obtain ⟨(q2 : (isV (.int .i64 c)) (vals 5) W), e2⟩ := hdep 5 28 (by kernel_rfl)
          generalize vals 5 = x2 at *
          obtain rfl : x2 = .int .i64 c := q2
          clear hB hdep
          obtain ⟨hmg, hmap⟩ := (HRB2.out W hC).map mb rfl
          obtain ⟨w2, hrun, hmap2, hkeep, hos, htape, hout⟩ := hmap.put (b, nm, ms) c
          unfold ek at hrun
          simp only at hrun
          refine writes_skip (w1 := w2) ?_ ⟨hmap2, hkeep, hos, htape, hout⟩
          simp only [execOp, Act.eval, e0, e1, e2]
          go_simp
        exact trivial
      · intro vals aa W0 w8 hC hFin hB hall
        obtain ⟨(k0 : (isV (.pointer (some ⟨g, 0, none⟩))) (vals 0) W0), e0⟩ := hall 0 _ rfl (by decide)
        obtain ⟨(k1 : (isV (.pointer (some ⟨g, 0, none⟩))) (vals 1) W0), e1⟩ := hall 1 _ rfl (by decide)
        obtain ⟨(k2 : (isV (.pointer (some ⟨g, 2, none⟩))) (vals 2) W0), e2⟩ := hall 2 _ rfl (by decide)
        obtain ⟨(k3 : (isV (.map (some mb))) (vals 3) W0), e3⟩ := hall 3 _ rfl (by decide)
        obtain ⟨(k4 : (isV (.agg #[.int .i64 b, .string nm, .string ms])) (vals 4) W0), e4⟩ := hall 4 _ rfl (by decide)
        obtain ⟨(k5 : (isV (.int .i64 c)) (vals 5) W0), e5⟩ := hall 5 _ rfl (by decide)
        have hv : ∀ pq ∈ [((23 : Nat), (.pointer (some ⟨g, 0, none⟩) : Value)), ((24 : Nat), (.pointer (some ⟨g, 0, none⟩) : Value)), ((25 : Nat), (.pointer (some ⟨g, 2, none⟩) : Value)), ((26 : Nat), (.map (some mb) : Value)), ((27 : Nat), (.agg #[.int .i64 b, .string nm, .string ms] : Value)), ((28 : Nat), (.int .i64 c : Value))], aa.tmps.getD pq.1 undef = pq.2 := by
          intro pq hp
          simp only [List.mem_cons, List.not_mem_nil, or_false] at hp
          rcases hp with rfl | rfl | rfl | rfl | rfl | rfl
          · exact (e0 _ rfl).trans k0
          · exact (e1 _ rfl).trans k1
          · exact (e2 _ rfl).trans k2
          · exact (e3 _ rfl).trans k3
          · exact (e4 _ rfl).trans k4
          · exact (e5 _ rfl).trans k5
        have hact := act_fold _ hB hv (by kernel_rfl)
        subst hact
        clear hv hall hB e0 e1 e2 e3 e4 e5
        refine (‹∀ (a : Act) (w : World), Code.wp Tryz.prog _ _ a w → _›) _ _ ?_
        simp only [List.foldl, List.setIfInBounds_toArray, List.set_cons_succ, List.set_cons_zero]
        obtain ⟨hm2, hk2, ho2, ht2, hu2⟩ := hFin
        have hrw := HRB2.out W0 hC
        have hmg := (hrw.map mb rfl).1
        have hbw0 : Below w.heap.size w W0 := HBw.out.trans (hC.mono HBw.out.size)
        have hRK : RK g (some mb) w w8 := ⟨⟨Nat.le_trans hbw0.size hk2.1, fun x hx hp => (hk2.2 x (Nat.lt_of_lt_of_le hx hbw0.size) (fun e => hp.2 (by rw [e]))).trans (hbw0.block x hx)⟩, fun B h1 h2 h3 => (hbw0.mono h3).trans (below_of_keep hk2 (by have := h2 mb rfl; omega) (Nat.le_trans h3 hbw0.size) ho2 ht2 hu2)⟩
        have hnew : RbW w8 g (some mb) R G (putE tk (b, nm, ms) c) := ⟨(hk2.2 g hrw.lt (fun e => hmg e.symm)).trans hrw.box, (fun h => by cases h), fun b' hb' => by cases hb'; exact ⟨hmg, hm2⟩⟩
        have HF := Lib.hid (And.intro hRK hnew)
        clear hm2 hk2 ho2 ht2 hu2 hrw hmg hbw0 hRK hnew hC
        go_wp2_with fail
        go_ret
        unfold PtPost
        rw [HQ.out]
        exact ⟨some mb, rfl, HF.out.2, HF.out.1, fun b h => .inl h⟩
    | none =>
      have c9 := cell_heap HR8.out.box 2
      have z9 := frozen_heap HR8.out.box 2
      have hb5 := below1 w8 (.map #[] 0)
      have hr5 := HR8.out.below hb5
      have hm5 := MapE.new w8
      have hn5 := (hb5.block _ (Array.getElem?_eq_some_iff.1 HN8.out).1).trans HN8.out
      have cB := cell_heap hr5.box 2
      have zB := frozen_heap hr5.box 2
      have hgw := HGW.out
      have hbs := HBw.out.size
      have hrow6 : ((w8.alloc (.map #[] 0)).setCell ⟨g, 2, none⟩ (.map (some w8.heap.size))).heap[g]? = some (.cells #[.int .i64 (R : Nat), .int .i64 (G : Nat), .map (some w8.heap.size)] 62 (0, 0)) := (rowSet hr5.box 2 _).trans (by simp)
      have hm6 : MapE ((w8.alloc (.map #[] 0)).setCell ⟨g, 2, none⟩ (.map (some w8.heap.size))) w8.heap.size fun _ => none := hm5.move (Below.heap_setCell _ _ _ _ (by simp; omega))
      have hn6 := (Below.heap_setCell (w8.alloc (.map #[] 0)) ⟨g, 2, none⟩ (.map (some w8.heap.size)) w.heap.size (by simp; omega)).trans hn5
      have hr6 : RbW ((w8.alloc (.map #[] 0)).setCell ⟨g, 2, none⟩ (.map (some w8.heap.size))) g (some w8.heap.size) R G tk := ⟨hrow6, (fun h => by cases h), fun b' hb' => by cases hb'; exact ⟨by omega, by rw [show tk = fun _ => none from funext (HR8.out.non rfl)]; exact hm6⟩⟩
      have hk6 : RK g none w ((w8.alloc (.map #[] 0)).setCell ⟨g, 2, none⟩ (.map (some w8.heap.size))) := (RK.of_below (ob := none) (HBw.out.trans (hb5.mono HBw.out.size))).trans (RK.set (ob := none) _ _ _) (fun b h => by cases h)
      have HR6 := Lib.hid hr6
      have HN6 := Lib.hid hn6
      have HK6 := Lib.hid (And.intro hk6 hbs)
      clear hb5 hr5 hm5 hn5 hgw hbs hrow6 hm6 hn6 hr6 hk6
      go_upto_region 5 with fail
      clear c9 z9 cB zB
      generalize hmb : w8.heap.size = mb at *
      generalize (w8.alloc (.map #[] 0)).setCell ⟨g, 2, none⟩ (.map (some mb)) = w4 at *
      have HRB2 : Hid (∀ W, Below w4.heap.size w4 W → RbW W g (some mb) R G tk) := Lib.hid fun W hW => HR6.out.below hW
      have HNB2 := Lib.hid HN6.out
      have HLT2 := Lib.hid (Array.getElem?_eq_some_iff.1 HN6.out).1
      have HMB : Hid (w.heap.size ≤ mb) := Lib.hid (by have := HK6.out.2; omega)
      clear hmb
      refine wp_region_late 6 3 4 26 27 (psi [isV (.pointer (some ⟨g, 0, none⟩)), isV (.pointer (some ⟨g, 0, none⟩)), isV (.pointer (some ⟨g, 2, none⟩)), isV (.map (some mb)), isV (.agg #[.int .i64 b, .string nm, .string ms]), isV (.int .i64 c), nothing]) (fun W => Below w4.heap.size w4 W) (fun _ _ W0 W' => MapE W' mb (putE tk (b, nm, ms) c) ∧ Keeps (fun x => x ≠ mb) W0 W' ∧ W'.os = W0.os ∧ W'.tape = W0.tape ∧ W'.output = W0.output) (by kernel_rfl) (Below.refl _ _).drew (psi_mono ?_) (by kernel_rfl) (by kernel_rfl) (by kernel_rfl) ?_ ?_
      · intro pq hp
        simp only [List.mem_cons, List.not_mem_nil, or_false] at hp
        (repeat' rcases hp with rfl | hp) <;> first | exact isV_stays _ | exact nothing_stays | (subst hp; first | exact isV_stays _ | exact nothing_stays)
      · refine AllOps.cons ?_ ?_
        · refine OpL.early (by kernel_rfl) (by kernel_rfl) fun ab W hC hB hdep => ?_
          refine .inl ⟨rfl, ?_⟩
          have b0 : ab.tmps.getD 0 undef = .pointer (some ⟨g, 0, none⟩) := hB.off 0 (by kernel_rfl)
          clear hB hdep
          refine goes_value (v := .pointer (some ⟨g, 0, none⟩)) ?_ hC rfl
          simp only [execOp, Act.eval, b0]
          go_simp
        refine AllOps.cons ?_ ?_
        · refine OpL.early (by kernel_rfl) (by kernel_rfl) fun ab W hC hB hdep => ?_
          refine .inl ⟨rfl, ?_⟩
          obtain ⟨x0, (q0 : (isV (.pointer (some ⟨g, 0, none⟩))) x0 W), e0⟩ := hdep 0 23 (by kernel_rfl)
          obtain rfl : x0 = .pointer (some ⟨g, 0, none⟩) := q0
          clear hB hdep
          refine goes_value (v := .pointer (some ⟨g, 0, none⟩)) ?_ hC rfl
          simp only [execOp, Act.eval, e0]
          go_simp
        refine AllOps.cons ?_ ?_
        · refine OpL.early (by kernel_rfl) (by kernel_rfl) fun ab W hC hB hdep => ?_
          refine .inl ⟨rfl, ?_⟩
          obtain ⟨x0, (q0 : (isV (.pointer (some ⟨g, 0, none⟩))) x0 W), e0⟩ := hdep 1 24 (by kernel_rfl)
          obtain rfl : x0 = .pointer (some ⟨g, 0, none⟩) := q0
          clear hB hdep
          refine goes_value (v := .pointer (some ⟨g, 2, none⟩)) ?_ hC rfl
          simp only [execOp, Act.eval, e0]
          go_simp
        refine AllOps.cons ?_ ?_
        · refine OpL.early (by kernel_rfl) (by kernel_rfl) fun ab W hC hB hdep => ?_
          refine .inl ⟨rfl, ?_⟩
          obtain ⟨x0, (q0 : (isV (.pointer (some ⟨g, 2, none⟩))) x0 W), e0⟩ := hdep 2 25 (by kernel_rfl)
          obtain rfl : x0 = .pointer (some ⟨g, 2, none⟩) := q0
          have c9 := cell_heap (HRB2.out W hC).box 2
          clear hB hdep
          refine goes_value (v := .map (some mb)) ?_ hC rfl
          simp only [execOp, Act.eval, e0]
          go_simp
        refine AllOps.cons ?_ ?_
        · refine OpL.early (by kernel_rfl) (by kernel_rfl) fun ab W hC hB hdep => ?_
          refine .inl ⟨rfl, ?_⟩
          have b0 : ab.tmps.getD 4 undef = .pointer (some ⟨w.heap.size, 0, none⟩) := hB.off 4 (by kernel_rfl)
          have cN := (hC.block _ HLT2.out).trans HNB2.out; have e90 := cell_heap cN 0; have e91 := cell_heap cN 1; have e92 := cell_heap cN 2
          clear hB hdep
          refine goes_value (v := .agg #[.int .i64 b, .string nm, .string ms]) ?_ hC rfl
          simp only [execOp, Act.eval, b0]
          go_simp
        refine AllOps.cons ?_ ?_
        · refine OpL.early (by kernel_rfl) (by kernel_rfl) fun ab W hC hB hdep => ?_
          refine .inl ⟨rfl, ?_⟩
          have b0 : ab.tmps.getD 2 undef = .int .i64 c := hB.off 2 (by kernel_rfl)
          clear hB hdep
          refine goes_value (v := .int .i64 c) ?_ hC rfl
          simp only [execOp, Act.eval, b0]
          go_simp
        refine AllOps.cons ?_ ?_
        · refine OpL.write (by kernel_rfl) fun vals ab W hC hB hdep => ⟨rfl, ?_⟩
          obtain ⟨(q0 : (isV (.map (some mb))) (vals 3) W), e0⟩ := hdep 3 26 (by kernel_rfl)
          generalize vals 3 = x0 at *
          obtain rfl : x0 = .map (some mb) := q0
          obtain ⟨(q1 : (isV (.agg #[.int .i64 b, .string nm, .string ms])) (vals 4) W), e1⟩ := hdep 4 27 (by kernel_rfl)
          generalize vals 4 = x1 at *
          obtain rfl : x1 = .agg #[.int .i64 b, .string nm, .string ms] := q1
          obtain ⟨(q2 : (isV (.int .i64 c)) (vals 5) W), e2⟩ := hdep 5 28 (by kernel_rfl)
          generalize vals 5 = x2 at *
          obtain rfl : x2 = .int .i64 c := q2
          clear hB hdep
          obtain ⟨hmg, hmap⟩ := (HRB2.out W hC).map mb rfl
          obtain ⟨w2, hrun, hmap2, hkeep, hos, htape, hout⟩ := hmap.put (b, nm, ms) c
          unfold ek at hrun
          simp only at hrun
          refine writes_skip (w1 := w2) ?_ ⟨hmap2, hkeep, hos, htape, hout⟩
          simp only [execOp, Act.eval, e0, e1, e2]
          go_simp
        exact trivial
      · intro vals aa W0 w8 hC hFin hB hall
        obtain ⟨(k0 : (isV (.pointer (some ⟨g, 0, none⟩))) (vals 0) W0), e0⟩ := hall 0 _ rfl (by decide)
        obtain ⟨(k1 : (isV (.pointer (some ⟨g, 0, none⟩))) (vals 1) W0), e1⟩ := hall 1 _ rfl (by decide)
        obtain ⟨(k2 : (isV (.pointer (some ⟨g, 2, none⟩))) (vals 2) W0), e2⟩ := hall 2 _ rfl (by decide)
        obtain ⟨(k3 : (isV (.map (some mb))) (vals 3) W0), e3⟩ := hall 3 _ rfl (by decide)
        obtain ⟨(k4 : (isV (.agg #[.int .i64 b, .string nm, .string ms])) (vals 4) W0), e4⟩ := hall 4 _ rfl (by decide)
        obtain ⟨(k5 : (isV (.int .i64 c)) (vals 5) W0), e5⟩ := hall 5 _ rfl (by decide)
        have hv : ∀ pq ∈ [((23 : Nat), (.pointer (some ⟨g, 0, none⟩) : Value)), ((24 : Nat), (.pointer (some ⟨g, 0, none⟩) : Value)), ((25 : Nat), (.pointer (some ⟨g, 2, none⟩) : Value)), ((26 : Nat), (.map (some mb) : Value)), ((27 : Nat), (.agg #[.int .i64 b, .string nm, .string ms] : Value)), ((28 : Nat), (.int .i64 c : Value))], aa.tmps.getD pq.1 undef = pq.2 := by
          intro pq hp
          simp only [List.mem_cons, List.not_mem_nil, or_false] at hp
          rcases hp with rfl | rfl | rfl | rfl | rfl | rfl
          · exact (e0 _ rfl).trans k0
          · exact (e1 _ rfl).trans k1
          · exact (e2 _ rfl).trans k2
          · exact (e3 _ rfl).trans k3
          · exact (e4 _ rfl).trans k4
          · exact (e5 _ rfl).trans k5
        have hact := act_fold _ hB hv (by kernel_rfl)
        subst hact
        clear hv hall hB e0 e1 e2 e3 e4 e5
        refine (‹∀ (a : Act) (w : World), Code.wp Tryz.prog _ _ a w → _›) _ _ ?_
        simp only [List.foldl, List.setIfInBounds_toArray, List.set_cons_succ, List.set_cons_zero]
        obtain ⟨hm2, hk2, ho2, ht2, hu2⟩ := hFin
        have hrw := HRB2.out W0 hC
        have hmg := (hrw.map mb rfl).1
        have hmbs := HMB.out
        have hrk0 : RK g none w W0 := HK6.out.1.trans (RK.of_below (ob := none) hC) (fun b h => by cases h)
        have hRK : RK g none w w8 := ⟨⟨Nat.le_trans hrk0.size hk2.1, fun x hx hp => (hk2.2 x (Nat.lt_of_lt_of_le hx hrk0.size) (by omega)).trans (hrk0.kee.2 x hx hp)⟩, fun B h1 h2 h3 => (hrk0.bel B h1 h2 h3).trans (below_of_keep hk2 (by omega) (Nat.le_trans h3 hrk0.size) ho2 ht2 hu2)⟩
        have hnew : RbW w8 g (some mb) R G (putE tk (b, nm, ms) c) := ⟨(hk2.2 g hrw.lt (fun e => hmg e.symm)).trans hrw.box, (fun h => by cases h), fun b' hb' => by cases hb'; exact ⟨hmg, hm2⟩⟩
        have HF := Lib.hid (And.intro hRK hnew)
        clear hm2 hk2 ho2 ht2 hu2 hrw hmg hRK hnew hC hrk0 hmbs
        go_wp2_with fail
        go_ret
        unfold PtPost
        rw [HQ.out]
        exact ⟨some mb, rfl, HF.out.2, HF.out.1, fun b h => by cases h; exact .inr HMB.out⟩

/-- May it be put? -/
noncomputable def mayP (R : Nat) (b : Int) (D : Sx) (c : Int) : Bool := decide (1 ≤ b ∧ b ≤ (R : Nat)) && (idB D && decide (1 ≤ c))
def PutPost (g : Nat) (ob : Option Nat) (R G : Nat) (tk : Ek → Option Int) (ok : Bool) (p : Ek) (c : Int) (w : World) (e : Ending) (w' : World) : Prop :=
  ∃ ob', e = .returned (.int .i64 (if ok then (if (tk p).getD 0 = 0 then 0 else 2) else 1)) ∧ RbW w' g ob' R G (if ok then (if (tk p).getD 0 = 0 then putE tk p c else tk) else tk) ∧ RK g ob w w' ∧ (∀ b, ob' = some b → ob = some b ∨ w.heap.size ≤ b)

set_option maxRecDepth 100000 in
set_option maxHeartbeats 4000000 in
/-- Put. -/
theorem rput_any (w : World) (g : Nat) (ob : Option Nat) (R G : Nat) (tk : Ek → Option Int) (h : RbW w g ob R G tk) (b : Int) (D : Sx) (us : List Value) (c : Int) (hd : SLay w D us) (hsm : SmS 1100000 D) (hml : D.m.length ≤ 1000000) (ht : Tabs w) :
    Calls Tryz.prog 21 #[.pointer (some ⟨g, 0, none⟩), .int .i64 b, .agg us.toArray, .int .i64 c] w (PutPost g ob R G tk (mayP R b D c) (b, D.t, wrt D.m) c w) := by
  have HD := Lib.hid hd
  have HSM := Lib.hid hsm
  have HT := Lib.hid ht
  have HML := Lib.hid hml
  have HTS : Hid (D.t.size ≤ 100000000) := Lib.hid (by have := hsm.open'.1; omega)
  obtain ⟨kx, tx, nx, xo, xn, xc, yo, yn, yc, ax, po, pn, pc, qo, qn, qc, rfl⟩ := sx_shapes hd
  clear hd hsm ht hml
  have hb1 := below1 w (.cells #[.int .i64 kx, .string tx, .bool nx, .slice xo xn xc, .slice yo yn yc, .int .i64 ax, .slice po pn pc, .slice qo qn qc] 29)
  have hn1 := heap_alloc_new w (.cells #[.int .i64 kx, .string tx, .bool nx, .slice xo xn xc, .slice yo yn yc, .int .i64 ax, .slice po pn pc, .slice qo qn qc] 29)
  have hh := has_any _ g ob R G tk (h.below hb1) b
  show Calls Tryz.prog 21 #[.pointer (some ⟨g, 0, none⟩), .int .i64 b, .agg #[.int .i64 kx, .string tx, .bool nx, .slice xo xn xc, .slice yo yn yc, .int .i64 ax, .slice po pn pc, .slice qo qn qc], .int .i64 c] w _
  go_enter Tryz.func21, Tryz.ntmps21
  go_upto_region 1 with fail
  generalize w.alloc (.cells #[.int .i64 kx, .string tx, .bool nx, .slice xo xn xc, .slice yo yn yc, .int .i64 ax, .slice po pn pc, .slice qo qn qc] 29) = w1 at *
  have HB1 := Lib.hid hb1
  have HN1 := Lib.hid hn1
  have HR1 := Lib.hid (h.below hb1)
  have HH := Lib.hid hh
  clear hb1 hn1 h hh
  go_wp2_with fail
  refine HH.out.mono ?_
  rintro e w2 ⟨rfl, rfl⟩
  cases hr : decide (1 ≤ b ∧ b ≤ (R : Nat)) with
  | false =>
    have HM : Hid (mayP R b D c = false) := Lib.hid (by unfold mayP; rw [hr]; rfl)
    clear hr
    go_wp2_with fail
    go_ret
    unfold PutPost
    rw [HM.out]
    exact ⟨ob, rfl, HR1.out, RK.of_below HB1.out, fun b h => .inl h⟩
  | true =>
    have HRR := Lib.hid hr
    clear hr
    obtain ⟨c0, c1, c2, c3, c4, c5, c6, c7⟩ := rowS8 HN1.out
    go_wp2_with fail
    refine (ident_any D _ w1 (HD.out.keep HB1.out) HSM.out (HT.out.below HB1.out (Nat.le_refl _))).mono ?_
    rintro e w2 ⟨rfl, hb2⟩
    have HB2 := Lib.hid (HB1.out.trans (hb2.mono HB1.out.size))
    have HN2 := Lib.hid ((hb2.block _ (Array.getElem?_eq_some_iff.1 HN1.out).1).trans HN1.out)
    have HR2 := Lib.hid (HR1.out.below hb2)
    clear hb2 c0 c1 c2 c3 c4 c5 c6 c7 HB1 HN1 HR1 HH
    cases hi : idB D with
    | false =>
      have HM : Hid (mayP R b D c = false) := Lib.hid (by unfold mayP; rw [hi, HRR.out]; rfl)
      clear hi
      go_wp2_with fail
      go_ret
      unfold PutPost
      rw [HM.out]
      exact ⟨ob, rfl, HR2.out, RK.of_below HB2.out, fun b h => .inl h⟩
    | true =>
      have HI := Lib.hid hi
      clear hi
      by_cases hc1 : c < 1
      · have hd : decide (c < 1) = true := by simpa using hc1
        have HM : Hid (mayP R b D c = false) := Lib.hid (by unfold mayP; rw [decide_eq_false (show ¬ 1 ≤ c by omega), Bool.and_false, Bool.and_false])
        clear hc1
        go_wp2_with fail
        go_ret
        unfold PutPost
        rw [HM.out]
        exact ⟨ob, rfl, HR2.out, RK.of_below HB2.out, fun b h => .inl h⟩
      · have hd : decide (c < 1) = false := by simpa using hc1
        have HM : Hid (mayP R b D c = true) := Lib.hid (by unfold mayP; rw [HRR.out, HI.out, decide_eq_true (show 1 ≤ c by omega)]; rfl)
        clear hc1
        obtain ⟨c0, c1, c2, c3, c4, c5, c6, c7⟩ := rowS8 HN2.out
        go_wp2_with fail
        refine (entryof_any b D _ w2 (HD.out.keep HB2.out) HTS.out HML.out).mono ?_
        rintro e w3 ⟨rfl, hb3⟩
        have HB3 := Lib.hid (HB2.out.trans (hb3.mono HB2.out.size))
        have HR3 := Lib.hid (HR2.out.below hb3)
        clear hb3 c0 c1 c2 c3 c4 c5 c6 c7
        unfold ek
        go_wp2_with fail
        refine (enter_any w3 g ob R G tk HR3.out (b, D.t, wrt D.m) c).mono ?_
        rintro e w4 ⟨ob', rfl, hrw4, hrk4, hob4⟩
        have HR4 := Lib.hid hrw4
        have HK4 := Lib.hid ((RK.of_below (ob := ob) HB3.out).trans hrk4 (fun b h => .inl h))
        have HO4 := Lib.hid (And.intro hob4 HB3.out.size)
        clear hrw4 hrk4 hob4
        obtain ⟨q, HQ⟩ : ∃ q, Hid ((if (tk (b, D.t, wrt D.m)).getD 0 = 0 then (0 : Int) else 2) = q) := ⟨_, Lib.hid rfl⟩
        rw [HQ.out]
        go_wp2_with fail
        go_ret
        unfold PutPost
        rw [HM.out, if_pos rfl, if_pos rfl, HQ.out]
        exact ⟨ob', rfl, HR4.out, HK4.out, fun b h => by rcases HO4.out.1 b h with h | h; exact .inl h; exact .inr (Nat.le_trans HO4.out.2 h)⟩

theorem zc_take_le (ss : List Int) (i : Nat) : zc (ss.take i) ≤ zc ss := by
  unfold zc
  exact List.Sublist.countP_le (List.take_sublist _ _)
theorem wrt_cut {zs : List Int} {u : Nat} (h : u < zs.length) : (wrt (zs.drop u)).extract 8 (wrt (zs.drop u)).size = wrt (zs.drop (u + 1)) := by
  have e : zs.drop u = zs[u] :: zs.drop (u + 1) := List.drop_eq_getElem_cons h
  rw [e]
  generalize zs.drop (u + 1) = ys
  refine Go.WideShapes.bytes_inj ?_
  rw [Lib.extract_to_end]
  exact wrt_tail
theorem fnd_zero {at' : Int → List Int → Int} {ss m : List Int} {i : Nat} (h : i < ss.length) (h0 : gz ss i = 0) {u : Nat} : fndL at' (ss.drop i) (m.drop u) = fndL at' (ss.drop (i + 1)) (m.drop (u + 1)) := by
  rw [List.drop_eq_getElem_cons h, ← gz_lt h, h0]
  conv => lhs; unfold fndL
  rw [if_pos rfl, List.tail_drop]
theorem fnd_hit {at' : Int → List Int → Int} {ss m : List Int} {i : Nat} (h : i < ss.length) (h0 : gz ss i ≠ 0) (h1 : at' (gz ss i) m ≠ 0) : fndL at' (ss.drop i) m = at' (gz ss i) m := by
  rw [List.drop_eq_getElem_cons h, ← gz_lt h]
  unfold fndL
  rw [if_neg h0, if_pos h1]
theorem fnd_miss {at' : Int → List Int → Int} {ss m : List Int} {i : Nat} (h : i < ss.length) (h0 : gz ss i ≠ 0) (h1 : at' (gz ss i) m = 0) : fndL at' (ss.drop i) m = fndL at' (ss.drop (i + 1)) m := by
  rw [List.drop_eq_getElem_cons h, ← gz_lt h]
  conv => lhs; unfold fndL
  rw [if_neg h0, if_neg (by simp [h1])]
/-- What the map says of a name with marks in a rib. -/
def atE (tk : Ek → Option Int) (t : ByteArray) (b : Int) (m : List Int) : Int := (tk (b, t, wrt m)).getD 0

set_option maxRecDepth 100000 in
set_option maxHeartbeats 8000000 in
theorem seek_any (w : World) (g : Nat) (ob : Option Nat) (R G : Nat) (tk : Ek → Option Int) (h : RbW w g ob R G tk) (D : Sx) (us : List Value) (hd : SLay w D us) (hzc : zc D.s ≤ D.m.length) (hml : D.m.length ≤ 1000000) (hsl : D.s.length ≤ 1000000) :
    Calls Tryz.prog 24 #[.pointer (some ⟨g, 0, none⟩), .agg us.toArray] w fun e w' => e = .returned (.int .i64 (fndL (atE tk D.t) D.s D.m)) ∧ Below w.heap.size w w' := by
  obtain ⟨kx, tx, nx, xo, xn, xc, yo, yn, yc, ax, po, pn, pc, qo, qn, qc, rfl⟩ := sx_shapes hd
  have HMS : Hid ((Iz w (.slice po pn pc) D.m ∧ Iz w (.slice qo qn qc) D.s) ∧ tx = D.t) := Lib.hid (by
    obtain ⟨lv, av, mv, sv, vs, he, _, _, _, _, hm, hs, _⟩ := hd.open'
    simp only [List.cons.injEq, and_true] at he
    obtain ⟨_, e1, _, _, _, _, e6, e7⟩ := he
    rw [e6, e7]
    exact ⟨⟨hm, hs⟩, by injection e1⟩)
  rw [← HMS.out.2]
  have HMS := Lib.hid HMS.out.1
  have HZC := Lib.hid hzc
  have HLN := Lib.hid (And.intro hml hsl)
  clear hd hzc hml hsl
  generalize D.m = mm at *
  generalize D.s = ss at *
  have hb1 := below1 w (.cells #[.int .i64 kx, .string tx, .bool nx, .slice xo xn xc, .slice yo yn yc, .int .i64 ax, .slice po pn pc, .slice qo qn qc] 29)
  have hn1 := heap_alloc_new w (.cells #[.int .i64 kx, .string tx, .bool nx, .slice xo xn xc, .slice yo yn yc, .int .i64 ax, .slice po pn pc, .slice qo qn qc] 29)
  show Calls Tryz.prog 24 #[.pointer (some ⟨g, 0, none⟩), .agg #[.int .i64 kx, .string tx, .bool nx, .slice xo xn xc, .slice yo yn yc, .int .i64 ax, .slice po pn pc, .slice qo qn qc]] w _
  go_enter Tryz.func24, Tryz.ntmps24
  go_upto_region 1 with fail
  generalize w.alloc (.cells #[.int .i64 kx, .string tx, .bool nx, .slice xo xn xc, .slice yo yn yc, .int .i64 ax, .slice po pn pc, .slice qo qn qc] 29) = w1 at *
  have HB1 := Lib.hid hb1
  have HN1 := Lib.hid hn1
  have HR1 := Lib.hid (h.below hb1)
  clear hb1 hn1 h
  obtain ⟨c0, c1, c2, c3, c4, c5, c6, c7⟩ := rowS8 HN1.out
  go_wp2_with fail
  refine (rwritten_any _ mm w1 (HMS.out.1.below HB1.out) HLN.out.1).mono ?_
  rintro e w2 ⟨rfl, hb2⟩
  have HB2 := Lib.hid (HB1.out.trans (hb2.mono HB1.out.size))
  have HN2 := Lib.hid ((hb2.block _ (Array.getElem?_eq_some_iff.1 HN1.out).1).trans HN1.out)
  have HR2 := Lib.hid (HR1.out.below hb2)
  have HS2 := Lib.hid (HMS.out.2.below HB2.out)
  clear hb2 c0 c1 c2 c3 c4 c5 c6 c7 HB1 HN1 HR1
  obtain ⟨c0, c1, c2, c3, c4, c5, c6, c7⟩ := rowS8 HN2.out
  obtain ⟨hsm, qo', qc', hqv, _, hcase⟩ := HS2.out.cases
  have hqn : qn = ss.length := by injection hqv
  subst hqn
  have HCS := Lib.hid hcase
  have hmx : ss.length ≤ 9223372036854775807 := by have := HLN.out.2; omega
  clear hcase hsm hqv
  go_wp2_with fail
  clear c0 c1 c2 c3 c4 c5 c6 c7
  go_loopw [5, 15] (fun lv iv wr => ∃ (i u : Nat), iv = .int .i64 (i : Nat) ∧ lv = .string (wrt (mm.drop u)) ∧ i ≤ ss.length ∧ u = zc (ss.take i) ∧ fndL (atE tk tx) ss mm = fndL (atE tk tx) (ss.drop i) (mm.drop u) ∧ Below w2.heap.size w2 wr) (fun _ iv _ => ss.length - (intOf iv).toNat)
  case atStart => exact ⟨0, 0, rfl, rfl, Nat.zero_le _, rfl, rfl, Below.refl _ _⟩
  case round =>
    obtain ⟨i, u, rfl, rfl, hi, hu, hf, hbl⟩ := hrel
    have HF := Lib.hid hf
    have HBL := Lib.hid hbl
    have HU := Lib.hid hu
    have HXR := Lib.hid ((hbl.block _ (Array.getElem?_eq_some_iff.1 HN2.out).1).trans HN2.out)
    have HRR := Lib.hid (HR2.out.below hbl)
    clear hf hbl hu
    by_cases hil : i < ss.length
    · have hii : ((i : Nat) : Int) < ((ss.length : Nat) : Int) := by omega
      obtain ⟨_, qo2, qc2, hqv, _, hr⟩ := (HS2.out.below HBL.out).cases
      simp only [Value.slice.injEq, true_and] at hqv
      obtain ⟨rfl, rfl⟩ := hqv
      rcases hr with ⟨h0, _⟩ | ⟨bb, off, rfl, _, hcell⟩
      · rw [h0] at hil; simp at hil
      have hc := hcell i hil
      clear hcell
      obtain ⟨z, hz⟩ : ∃ z, z = gz ss i := ⟨_, rfl⟩
      rw [← hz] at hc
      have HGZ := Lib.hid hz
      clear hz
      by_cases hz0 : z = 0
      · have hzd : (z == 0) = true := by rw [hz0]; rfl
        have HZ0 := Lib.hid hz0
        clear hz0
        have hzs := zc_step hil
        rw [← HGZ.out, HZ0.out, if_pos rfl, ← HU.out] at hzs
        have hle := zc_take_le ss (i + 1)
        have hul : u < mm.length := by have := HZC.out; omega
        have hws : (wrt (mm.drop u)).size = 8 * (mm.length - u) := by rw [wrt_size, List.length_drop]
        have hw8 : 8 ≤ (wrt (mm.drop u)).size := by rw [hws]; omega
        have hwm : (wrt (mm.drop u)).size ≤ 9223372036854775807 := by rw [hws]; have := HLN.out.1; omega
        have HCUT := Lib.hid (wrt_cut hul)
        have HZS := Lib.hid hzs
        clear hzs hle hul hws
        go_wp2_with fail
        go_roundw
        case measure => simp only [intOf]; omega
        case rel => exact ⟨i + 1, u + 1, by go_num, by rw [HCUT.out], by omega, HZS.out.symm, HF.out.trans (fnd_zero hil (HGZ.out.symm.trans HZ0.out)), HBL.out⟩
      · have hzd : (z == 0) = false := by rw [beq_eq_false_iff_ne]; exact hz0
        have HZ0 := Lib.hid hz0
        clear hz0
        have HRB : Hid (∀ W, Below wr.heap.size wr W → RbW W g ob R G tk) := Lib.hid fun W hW => HRR.out.below hW
        have HLT2 := Lib.hid (Array.getElem?_eq_some_iff.1 HXR.out).1
        go_wp2_with fail
        clear hc
        refine wp_region_slotsG (psi [isV (.pointer (some ⟨g, 0, none⟩)), isV (.pointer (some ⟨g, 0, none⟩)), isV (.pointer (some ⟨g, 2, none⟩)), isV (.map ob), isV (.int .i64 z), isV (.pointer (some ⟨w.heap.size, 1, none⟩)), isV (.string tx), isV (.string (wrt (mm.drop u))), isV (.agg #[.int .i64 z, .string tx, .string (wrt (mm.drop u))]), isV (.int .i64 ((tk (z, tx, wrt (mm.drop u))).getD 0)), isV (.int .i64 ((tk (z, tx, wrt (mm.drop u))).getD 0))]) (fun W => Below wr.heap.size wr W) (by kernel_rfl) (Below.refl _ _).drew (psi_mono ?_) (by kernel_rfl) (by kernel_rfl) ?_ ?_
        · intro pq hp
          simp only [List.mem_cons, List.not_mem_nil, or_false] at hp
          (repeat' rcases hp with rfl | hp) <;> first | exact isV_stays _ | (subst hp; exact isV_stays _)
        · refine AllOps.cons ?_ ?_
          · intro ab W hC hB hdep
            refine .inl ⟨rfl, ?_⟩
            have b0 : ab.tmps.getD 0 undef = .pointer (some ⟨g, 0, none⟩) := hB.off 0 (by kernel_rfl)
            clear hB hdep
            refine goes_value (v := .pointer (some ⟨g, 0, none⟩)) ?_ hC rfl
            simp only [execOp, Act.eval, b0]
            go_simp
          refine AllOps.cons ?_ ?_
          · intro ab W hC hB hdep
            refine .inl ⟨rfl, ?_⟩
            obtain ⟨x0, (q0 : (isV (.pointer (some ⟨g, 0, none⟩))) x0 W), e0⟩ := hdep 0 23 (by kernel_rfl)
            obtain rfl : x0 = .pointer (some ⟨g, 0, none⟩) := q0
            clear hB hdep
            refine goes_value (v := .pointer (some ⟨g, 0, none⟩)) ?_ hC rfl
            simp only [execOp, Act.eval, e0]
            go_simp
          refine AllOps.cons ?_ ?_
          · intro ab W hC hB hdep
            refine .inl ⟨rfl, ?_⟩
            obtain ⟨x0, (q0 : (isV (.pointer (some ⟨g, 0, none⟩))) x0 W), e0⟩ := hdep 1 24 (by kernel_rfl)
            obtain rfl : x0 = .pointer (some ⟨g, 0, none⟩) := q0
            clear hB hdep
            refine goes_value (v := .pointer (some ⟨g, 2, none⟩)) ?_ hC rfl
            simp only [execOp, Act.eval, e0]
            go_simp
          refine AllOps.cons ?_ ?_
          · intro ab W hC hB hdep
            refine .inl ⟨rfl, ?_⟩
            obtain ⟨x0, (q0 : (isV (.pointer (some ⟨g, 2, none⟩))) x0 W), e0⟩ := hdep 2 25 (by kernel_rfl)
            obtain rfl : x0 = .pointer (some ⟨g, 2, none⟩) := q0
            have c9 := cell_heap (HRB.out W hC).box 2
            clear hB hdep
            refine goes_value (v := .map ob) ?_ hC rfl
            simp only [execOp, Act.eval, e0]
            go_simp
          refine AllOps.cons ?_ ?_
          · intro ab W hC hB hdep
            refine .inl ⟨rfl, ?_⟩
            have b0 : ab.tmps.getD 7 undef = .int .i64 z := hB.off 7 (by kernel_rfl)
            clear hB hdep
            refine goes_value (v := .int .i64 z) ?_ hC rfl
            simp only [execOp, Act.eval, b0]
            go_simp
          refine AllOps.cons ?_ ?_
          · intro ab W hC hB hdep
            refine .inl ⟨rfl, ?_⟩
            have b0 : ab.tmps.getD 3 undef = .pointer (some ⟨w.heap.size, 0, none⟩) := hB.off 3 (by kernel_rfl)
            clear hB hdep
            refine goes_value (v := .pointer (some ⟨w.heap.size, 1, none⟩)) ?_ hC rfl
            simp only [execOp, Act.eval, b0]
            go_simp
          refine AllOps.cons ?_ ?_
          · intro ab W hC hB hdep
            refine .inl ⟨rfl, ?_⟩
            obtain ⟨x0, (q0 : (isV (.pointer (some ⟨w.heap.size, 1, none⟩))) x0 W), e0⟩ := hdep 5 28 (by kernel_rfl)
            obtain rfl : x0 = .pointer (some ⟨w.heap.size, 1, none⟩) := q0
            obtain ⟨c0, c1, c2, c3, c4, c5, c6, c7⟩ := rowS8 ((hC.block _ HLT2.out).trans HXR.out)
            clear hB hdep
            refine goes_value (v := .string tx) ?_ hC rfl
            simp only [execOp, Act.eval, e0]
            go_simp
          refine AllOps.cons ?_ ?_
          · intro ab W hC hB hdep
            refine .inl ⟨rfl, ?_⟩
            have b0 : ab.tmps.getD 5 undef = .string (wrt (mm.drop u)) := hB.off 5 (by kernel_rfl)
            clear hB hdep
            refine goes_value (v := .string (wrt (mm.drop u))) ?_ hC rfl
            simp only [execOp, Act.eval, b0]
            go_simp
          refine AllOps.cons ?_ ?_
          · intro ab W hC hB hdep
            refine .inl ⟨rfl, ?_⟩
            obtain ⟨x0, (q0 : (isV (.int .i64 z)) x0 W), e0⟩ := hdep 4 27 (by kernel_rfl)
            obtain rfl : x0 = .int .i64 z := q0
            obtain ⟨x1, (q1 : (isV (.string tx)) x1 W), e1⟩ := hdep 6 29 (by kernel_rfl)
            obtain rfl : x1 = .string tx := q1
            obtain ⟨x2, (q2 : (isV (.string (wrt (mm.drop u)))) x2 W), e2⟩ := hdep 7 30 (by kernel_rfl)
            obtain rfl : x2 = .string (wrt (mm.drop u)) := q2
            clear hB hdep
            refine goes_value (v := .agg #[.int .i64 z, .string tx, .string (wrt (mm.drop u))]) ?_ hC rfl
            simp only [Array.getD_eq_getD_getElem?] at e0 e1 e2
            simp only [execOp]
            go_simp
          refine AllOps.cons ?_ ?_
          · intro ab W hC hB hdep
            refine .inl ⟨rfl, ?_⟩
            obtain ⟨x0, (q0 : (isV (.map ob)) x0 W), e0⟩ := hdep 3 26 (by kernel_rfl)
            obtain rfl : x0 = .map ob := q0
            obtain ⟨x1, (q1 : (isV (.agg #[.int .i64 z, .string tx, .string (wrt (mm.drop u))])) x1 W), e1⟩ := hdep 8 31 (by kernel_rfl)
            obtain rfl : x1 = .agg #[.int .i64 z, .string tx, .string (wrt (mm.drop u))] := q1
            have hlk := (HRB.out W hC).look (z, tx, wrt (mm.drop u)); unfold ek at hlk; simp only at hlk
            clear hB hdep
            refine goes_value (v := .int .i64 ((tk (z, tx, wrt (mm.drop u))).getD 0)) ?_ hC rfl
            simp only [execOp, Act.eval, e0, e1]
            go_simp
          refine AllOps.cons ?_ ?_
          · intro ab W hC hB hdep
            refine .inl ⟨rfl, ?_⟩
            obtain ⟨x0, (q0 : (isV (.int .i64 ((tk (z, tx, wrt (mm.drop u))).getD 0))) x0 W), e0⟩ := hdep 9 32 (by kernel_rfl)
            obtain rfl : x0 = .int .i64 ((tk (z, tx, wrt (mm.drop u))).getD 0) := q0
            clear hB hdep
            refine goes_value (v := .int .i64 ((tk (z, tx, wrt (mm.drop u))).getD 0)) ?_ hC rfl
            simp only [execOp, Act.eval, e0]
            go_simp
          exact trivial
        · intro aa w8 hC hB hall
          obtain ⟨v0, (k0 : v0 = .pointer (some ⟨g, 0, none⟩)), e0⟩ := hall 0 _ rfl
          obtain ⟨v1, (k1 : v1 = .pointer (some ⟨g, 0, none⟩)), e1⟩ := hall 1 _ rfl
          obtain ⟨v2, (k2 : v2 = .pointer (some ⟨g, 2, none⟩)), e2⟩ := hall 2 _ rfl
          obtain ⟨v3, (k3 : v3 = .map ob), e3⟩ := hall 3 _ rfl
          obtain ⟨v4, (k4 : v4 = .int .i64 z), e4⟩ := hall 4 _ rfl
          obtain ⟨v5, (k5 : v5 = .pointer (some ⟨w.heap.size, 1, none⟩)), e5⟩ := hall 5 _ rfl
          obtain ⟨v6, (k6 : v6 = .string tx), e6⟩ := hall 6 _ rfl
          obtain ⟨v7, (k7 : v7 = .string (wrt (mm.drop u))), e7⟩ := hall 7 _ rfl
          obtain ⟨v8, (k8 : v8 = .agg #[.int .i64 z, .string tx, .string (wrt (mm.drop u))]), e8⟩ := hall 8 _ rfl
          obtain ⟨v9, (k9 : v9 = .int .i64 ((tk (z, tx, wrt (mm.drop u))).getD 0)), e9⟩ := hall 9 _ rfl
          obtain ⟨v10, (k10 : v10 = .int .i64 ((tk (z, tx, wrt (mm.drop u))).getD 0)), e10⟩ := hall 10 _ rfl
          subst k0 k1 k2 k3 k4 k5 k6 k7 k8 k9 k10
          have hv : ∀ pq ∈ [((23 : Nat), (.pointer (some ⟨g, 0, none⟩) : Value)), ((24 : Nat), (.pointer (some ⟨g, 0, none⟩) : Value)), ((25 : Nat), (.pointer (some ⟨g, 2, none⟩) : Value)), ((26 : Nat), (.map ob : Value)), ((27 : Nat), (.int .i64 z : Value)), ((28 : Nat), (.pointer (some ⟨w.heap.size, 1, none⟩) : Value)), ((29 : Nat), (.string tx : Value)), ((30 : Nat), (.string (wrt (mm.drop u)) : Value)), ((31 : Nat), (.agg #[.int .i64 z, .string tx, .string (wrt (mm.drop u))] : Value)), ((32 : Nat), (.int .i64 ((tk (z, tx, wrt (mm.drop u))).getD 0) : Value)), ((8 : Nat), (.int .i64 ((tk (z, tx, wrt (mm.drop u))).getD 0) : Value))], aa.tmps.getD pq.1 undef = pq.2 := by
            intro pq hp
            simp only [List.mem_cons, List.not_mem_nil, or_false] at hp
            rcases hp with rfl | rfl | rfl | rfl | rfl | rfl | rfl | rfl | rfl | rfl | rfl
            · exact e0 _ rfl
            · exact e1 _ rfl
            · exact e2 _ rfl
            · exact e3 _ rfl
            · exact e4 _ rfl
            · exact e5 _ rfl
            · exact e6 _ rfl
            · exact e7 _ rfl
            · exact e8 _ rfl
            · exact e9 _ rfl
            · exact e10 _ rfl
          have hact := act_fold _ hB hv (by kernel_rfl)
          subst hact
          clear hv hall hB e0 e1 e2 e3 e4 e5 e6 e7 e8 e9 e10
          refine (‹∀ (a : Act) (w : World), Code.wp Tryz.prog _ _ a w → _›) _ w8 ?_
          simp only [List.foldl, List.setIfInBounds_toArray, List.set_cons_succ, List.set_cons_zero]
          have HB8 : Hid (Below w2.heap.size w2 w8) := Lib.hid (HBL.out.trans (hC.mono HBL.out.size))
          clear hC
          obtain ⟨q, hq⟩ : ∃ q, q = (tk (z, tx, wrt (mm.drop u))).getD 0 := ⟨_, rfl⟩
          rw [← hq]
          have HQ : Hid (atE tk tx (gz ss i) (mm.drop u) = q) := Lib.hid (by rw [← HGZ.out]; exact hq.symm)
          clear hq
          by_cases hq0 : q = 0
          · have hqd : (q != 0) = false := by rw [hq0]; rfl
            have HQ0 := Lib.hid hq0
            clear hq0
            go_wp2_with fail
            go_roundw
            case measure => simp only [intOf]; omega
            case rel =>
              refine ⟨i + 1, u, by go_num, rfl, by omega, ?_, HF.out.trans (fnd_miss hil (fun e => HZ0.out (HGZ.out.trans e)) (HQ.out.trans HQ0.out)), HB8.out⟩
              have hzs := zc_step hil
              rw [← HGZ.out, if_neg HZ0.out, ← HU.out] at hzs
              omega
          · have hqd : (q != 0) = true := by rw [bne_iff_ne]; exact hq0
            have HQ0 := Lib.hid hq0
            clear hq0
            go_wp2_with fail
            go_ret
            exact ⟨ret_int (by rw [HF.out, fnd_hit hil (fun e => HZ0.out (HGZ.out.trans e)) (by rw [HQ.out]; exact HQ0.out), HQ.out]), HB2.out.trans (HB8.out.mono HB2.out.size)⟩
    · obtain rfl : i = ss.length := by omega
      have HV : Hid (fndL (atE tk tx) ss mm = 0) := Lib.hid (by rw [HF.out, List.drop_length]; rfl)
      go_wp2_with fail
      go_ret
      exact ⟨ret_int (by rw [HV.out]), HB2.out.trans (HBL.out.mono HB2.out.size)⟩
end Go.Proofs.YtegengnffdlplaaGreatDoor
