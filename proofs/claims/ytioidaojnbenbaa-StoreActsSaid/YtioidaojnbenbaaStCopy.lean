/- A store's copy. -/
import Derived.Test.YtioidaojnbenbaaStCpO
import Derived.Test.YtioidaojnbenbaaOrdL
namespace Go.Proofs.Ytioidaojnbenbaa
open Go.RowKit

/-- An object's copy, in the copy. -/
def isOC (B : Nat) (k : Int) (c : Nat) (l : List (Int × Int)) (x : Option Px) : Value → World → Prop := fun v W => ∃ sv pv M, v = .agg #[.int .i64 k, .int .i64 (c : Nat), sv, pv] ∧ B ≤ M ∧ W.ownsRow B 35 2 sv l.length (vcs l) ∧ (∀ b, sv.ownBlock = some b → b < M) ∧ PxAt (fun b => M ≤ b) W pv x
theorem isOC_stays (B : Nat) (k : Int) (c : Nat) (l : List (Int × Int)) (x : Option Px) : Stays (isOC B k c l x) := fun _ _ _ hb ⟨sv, pv, M, h1, h2, h3, h4, h5⟩ => ⟨sv, pv, M, h1, h2, ownsRow_keep h3 (Keeps.of_below (P := fun _ => True) hb) fun _ _ => trivial, h4, h5.move (Keeps.of_below hb)⟩
theorem PxAt.ptr {P : Nat → Prop} {w : World} {pv : Value} {x : Option Px} (h : PxAt P w pv x) : ∃ po, pv = .pointer po := by
  cases x with
  | none => exact ⟨_, h⟩
  | some p => obtain ⟨_, _, _, _, _, e, _⟩ := h; exact ⟨_, e⟩
def FillsR (b i : Nat) : Value → Value → World → World → Prop := fun _ v W0 W' => ∃ a0 a1 a2 a3, v = .agg #[a0, a1, a2, a3] ∧ W' = (((W0.setCell ⟨b, i * 4, none⟩ a0).setCell ⟨b, i * 4 + 1, none⟩ a1).setCell ⟨b, i * 4 + 2, none⟩ a2).setCell ⟨b, i * 4 + 3, none⟩ a3
/-- The first step: the box and the row. -/
theorem CpM.start {w w2 : World} {s : St} {ms : List OM} {nv mv : Value} {ro : Option Addr} {rc : Nat} (hb2 : Below w.heap.size w w2) (hbx : w2.heap[w.heap.size]? = some (.cells #[.int .i64 (s.L : Nat), .int .i64 (s.U : Nat), .slice ro ms.length rc, nv, mv] 69 (0, 0))) (hrow : w2.ownsRow (w.heap.size + 1) 73 4 (.slice ro ms.length rc) ms.length (omLs ms)) :
    ∃ R, CpM w w2 w.heap.size R s ms ms (.slice ro ms.length rc) nv mv 0 := by
  have hr := hrow.lt
  have hl := (Array.getElem?_eq_some_iff.1 hbx).1
  refine ⟨fun b => if b = w.heap.size then 1 else if (Value.slice ro ms.length rc).ownBlock = some b then 2 else 0, hb2, fun b hb => ?_, if_pos rfl, hbx, ownsRow_base hrow (by omega), fun b hb => ?_, rfl, rfl, fun _ _ => rfl, fun _ _ h => by omega, fun _ _ h => by omega, fun _ _ h => by omega⟩
  · by_cases h1 : b = w.heap.size
    · subst h1; exact ⟨Nat.le_refl _, hl⟩
    · by_cases h2 : (Value.slice ro ms.length rc).ownBlock = some b
      · have := hr b h2; exact ⟨by omega, this.2⟩
      · simp [h1, h2] at hb
  · have := hr b hb
    have h1 : b ≠ w.heap.size := by omega
    simp [hb, h1]

set_option maxRecDepth 100000 in
set_option maxHeartbeats 8000000 in
theorem stcopy_all (g : Nat) (R : Nat → Nat) (s : St) (w : World) (h : StW w g R s) (hx : ∀ o ∈ s.os, PxSm o.x) :
    Calls Try.prog 8 #[.pointer (some ⟨g, 0, none⟩)] w fun e w' => ∃ g2 R2, e = .returned (.pointer (some ⟨g2, 0, none⟩)) ∧ StW w' g2 R2 s ∧ (∀ b, R2 b ≠ 0 → w.heap.size ≤ b) ∧ Below w.heap.size w w' := by
  obtain ⟨ms, ov, nv, mv, hm⟩ := h
  have HM := Lib.hid hm
  have HX := Lib.hid hx
  have hmx : ms.length ≤ 1048576 := by rw [← hm.len]; exact hm.ok.len
  obtain ⟨oo, oc, rfl⟩ := own_dslice hm.orow
  obtain ⟨no, nc, rfl⟩ := own_dslice hm.nrow
  obtain ⟨mo, rfl⟩ : ∃ mo, mv = .map mo := by rcases hm.map with ⟨e, _⟩ | ⟨b, e, _⟩ <;> exact ⟨_, e⟩
  obtain ⟨c0, c1, c2, c3, c4, _⟩ := hm.boxf
  have hgl := hm.glt
  clear hm hx
  have HB1 := Lib.hid (below1 w (.cells #[.int .i64 (s.L : Nat), .int .i64 (s.U : Nat), .slice oo ms.length oc, .slice no s.ns.length nc, .map mo] 69))
  have HN1 := Lib.hid (heap_alloc_new w (.cells #[.int .i64 (s.L : Nat), .int .i64 (s.U : Nat), .slice oo ms.length oc, .slice no s.ns.length nc, .map mo] 69))
  go_enter Try.func8, Try.ntmps8
  go_upto_region 4 with fail
  clear c0 c1 c2 c3 c4
  generalize w.alloc (.cells #[.int .i64 (s.L : Nat), .int .i64 (s.U : Nat), .slice oo ms.length oc, .slice no s.ns.length nc, .map mo] 69) = w1 at *
  obtain ⟨c0, c1, c2, c3, c4, _⟩ := (HM.out.below HB1.out).boxf
  go_wp2_with fail
  refine (stowno_any _ ms.length (omLs ms) w1 (RowV.of_own (HM.out.below HB1.out).orow) HM.out.cells1 (by omega)).mono ?_
  rintro e w2 ⟨v2, rfl, ho2, hb2⟩
  obtain ⟨ro, rc, rfl⟩ := own_dslice ho2
  have HB2 := Lib.hid (HB1.out.trans (hb2.mono HB1.out.size))
  have S1 := Lib.hid ((hb2.block _ (Array.getElem?_eq_some_iff.1 HN1.out).1).trans HN1.out)
  have HO2 := Lib.hid (ownsRow_base ho2 (show w.heap.size + 1 ≤ w1.heap.size from (Array.getElem?_eq_some_iff.1 HN1.out).1))
  clear c0 c1 c2 c3 c4 hb2 ho2 HN1 HB1
  have d2 := cell_heap S1.out 2
  have z2 := frozen_heap S1.out 2
  obtain ⟨R3, hc3⟩ := CpM.start (s := s) (nv := .slice no s.ns.length nc) (mv := .map mo) (ms := ms) (HB2.out.setCell (p := ⟨w.heap.size, 2, none⟩) (Nat.le_refl _) (.slice ro ms.length rc)) ((rowSet S1.out 2 _).trans (by simp)) (own_set HO2.out S1.out (by decide) 2 (.slice ro ms.length rc))
  have HC3 := Lib.hid hc3
  clear hc3
  go_upto_region 5 with fail
  generalize w2.setCell ⟨w.heap.size, 2, none⟩ (.slice ro ms.length rc) = w3 at *
  clear d2 z2 S1 HO2 HB2
  have d2 := cell_heap HC3.out.box 2
  go_wp2_with fail
  clear d2
  go_loopw [20] (fun v wr => ∃ (k : Nat) (R' : Nat → Nat) (ms' : List OM), k ≤ ms.length ∧ v = .int .i64 (k : Nat) ∧ CpM w wr w.heap.size R' s ms ms' (.slice ro ms.length rc) (.slice no s.ns.length nc) (.map mo) k) (fun v _ => ms.length - (intOf v).toNat)
  case atStart => exact ⟨0, R3, ms, Nat.zero_le _, rfl, HC3.out⟩
  case round =>
    obtain ⟨k, R', ms', hk, rfl, hc⟩ := hrel
    have HC := Lib.hid hc
    clear HC3
    by_cases hin : k < ms.length
    · have hii : ((k : Nat) : Int) < ((ms.length : Nat) : Int) := by omega
      have hkl : k < ms'.length := by rw [hc.len]; exact hin
      obtain ⟨rb, cap', hrv, _, hrb0, hrb1, hrb2, hfz, c0, c1, c2, c3⟩ := hc.rowAt hkl
      have hmm : ms'[k]'hkl = ms[k]'hin := by
        have := hc.old k (Nat.le_refl _)
        rw [List.getElem?_eq_getElem hkl, List.getElem?_eq_getElem hin] at this
        exact Option.some.inj this
      rw [hc.len] at hrv
      simp only [Value.slice.injEq, true_and] at hrv
      obtain ⟨rfl, rfl⟩ := hrv
      have hmem : (ms[k]'hin).o ∈ s.os := by rw [HM.out.eqs]; exact List.mem_map.2 ⟨_, List.getElem_mem hin, rfl⟩
      have HSR : Hid (∀ W, Below w.heap.size w W → RowV W (ms[k]'hin).sv (ms[k]'hin).o.s.length 2 (vcs (ms[k]'hin).o.s)) := Lib.hid fun W hW => (RowV.of_own (HM.out.srow k hin)).below hW
      have HPR : Hid (∀ W, Below w.heap.size w W → PxAt (fun b => R b = 5) W (ms[k]'hin).pv (ms[k]'hin).o.x) := Lib.hid fun W hW => (HM.out.prow k hin).move (Keeps.of_below hW)
      have HSL := Lib.hid (HM.out.ok.slots hmem)
      have HPX := Lib.hid (HX.out _ hmem)
      rw [hmm] at c0 c1 c2 c3
      have HMM : Hid (∃ h : k < ms'.length, ms'[k]'h = ms[k]'hin) := Lib.hid ⟨hkl, hmm⟩
      generalize ms[k]'hin = m at *
      clear hmm hmem hkl
      obtain ⟨ob, msv, mpv⟩ := m
      simp only at c0 c1 c2 c3 HSR HPR HSL HPX
      obtain ⟨so, sc, rfl⟩ : ∃ a c, msv = .slice a ob.s.length c := by obtain ⟨_, _, a, c, e, _⟩ := HSR.out wr hc.bel; exact ⟨a, c, e⟩
      obtain ⟨po, rfl⟩ : ∃ po, mpv = .pointer po := by
        have hp := HPR.out wr hc.bel
        cases hx : ob.x with
        | none => rw [hx] at hp; exact ⟨_, hp⟩
        | some p => rw [hx] at hp; obtain ⟨_, _, _, _, _, e, _⟩ := hp; exact ⟨_, e⟩
      have HFZ := Lib.hid hfz
      have HB8 := Lib.hid (below1 wr (.cells #[.int .i64 ob.k, .int .i64 (ob.c : Nat), .slice so ob.s.length sc, .pointer po] 73))
      have HN8 := Lib.hid (heap_alloc_new wr (.cells #[.int .i64 ob.k, .int .i64 (ob.c : Nat), .slice so ob.s.length sc, .pointer po] 73))
      have HBL := Lib.hid hc.bel
      have HRB := Lib.hid (And.intro hrb0 hrb1)
      clear hc hfz hrb0 hrb1 hrb2
      go_upto_region 8 with fail
      clear c0 c1 c2 c3
      generalize wr.alloc (.cells #[.int .i64 ob.k, .int .i64 (ob.c : Nat), .slice so ob.s.length sc, .pointer po] 73) = w8 at *
      have HC8 := Lib.hid (HC.out.below HB8.out)
      refine wp_region_late 6 5 4 30 29 (psi [isV (.pointer (some ⟨w.heap.size, 2, none⟩)), isV (.slice (some ⟨rb, 0, none⟩) ms.length rc), isV (.int .i64 ((k : Nat) : Int)), isV (.agg #[.int .i64 ob.k, .int .i64 (ob.c : Nat), .slice so ob.s.length sc, .pointer po]), isOC w8.heap.size ob.k ob.c ob.s ob.x, isV (.pointer (some ⟨rb, k * 4, none⟩)), nothing]) (fun W => Below w8.heap.size w8 W) (FillsR rb k) (by kernel_rfl) (Below.refl _ _).drew (psi_mono ?_) (by kernel_rfl) (by kernel_rfl) (by kernel_rfl) ?_ ?_
      · intro pq hp
        simp only [List.mem_cons, List.not_mem_nil, or_false] at hp
        (repeat' rcases hp with rfl | hp) <;> first | exact isV_stays _ | exact nothing_stays | (subst hp; first | exact isV_stays _ | exact nothing_stays) | exact isOC_stays _ _ _ _ _ | (subst hp; exact isOC_stays _ _ _ _ _)
      · refine AllOps.cons ?_ ?_
        · refine OpL.early (by kernel_rfl) (by kernel_rfl) fun ab W hC hB hdep => ?_
          refine .inl ⟨rfl, ?_⟩
          have b0 : ab.tmps.getD 3 undef = .pointer (some ⟨w.heap.size, 0, none⟩) := hB.off 3 (by kernel_rfl)
          clear hB hdep
          refine goes_value (v := .pointer (some ⟨w.heap.size, 2, none⟩)) ?_ hC rfl
          simp only [execOp, Act.eval, b0]
          go_simp
        refine AllOps.cons ?_ ?_
        · refine OpL.early (by kernel_rfl) (by kernel_rfl) fun ab W hC hB hdep => ?_
          refine .inl ⟨rfl, ?_⟩
          obtain ⟨x0, (q0 : (isV (.pointer (some ⟨w.heap.size, 2, none⟩))) x0 W), e0⟩ := hdep 0 25 (by kernel_rfl)
          obtain rfl : x0 = .pointer (some ⟨w.heap.size, 2, none⟩) := q0
          have d2 := cell_heap (HC8.out.below hC).box 2
          clear hB hdep
          refine goes_value (v := .slice (some ⟨rb, 0, none⟩) ms.length rc) ?_ hC rfl
          simp only [execOp, Act.eval, e0]
          go_simp
        refine AllOps.cons ?_ ?_
        · refine OpL.early (by kernel_rfl) (by kernel_rfl) fun ab W hC hB hdep => ?_
          refine .inl ⟨rfl, ?_⟩
          have b0 : ab.tmps.getD 4 undef = .int .i64 ((k : Nat) : Int) := hB.off 4 (by kernel_rfl)
          clear hB hdep
          refine goes_value (v := .int .i64 ((k : Nat) : Int)) ?_ hC rfl
          simp only [execOp, Act.eval, b0]
          go_simp
        refine AllOps.cons ?_ ?_
        · refine OpL.early (by kernel_rfl) (by kernel_rfl) fun ab W hC hB hdep => ?_
          refine .inl ⟨rfl, ?_⟩
          have b0 : ab.tmps.getD 5 undef = .pointer (some ⟨wr.heap.size, 0, none⟩) := hB.off 5 (by kernel_rfl)
          obtain ⟨c0, c1, c2, c3, _⟩ := row4o ((hC.block _ (Array.getElem?_eq_some_iff.1 HN8.out).1).trans HN8.out)
          clear hB hdep
          refine goes_value (v := .agg #[.int .i64 ob.k, .int .i64 (ob.c : Nat), .slice so ob.s.length sc, .pointer po]) ?_ hC rfl
          simp only [execOp, Act.eval, b0]
          go_simp
        refine AllOps.cons ?_ ?_
        · refine OpL.early (by kernel_rfl) (by kernel_rfl) fun ab W hC hB hdep => ?_
          refine .inl ⟨rfl, ?_⟩
          obtain ⟨x0, (q0 : (isV (.agg #[.int .i64 ob.k, .int .i64 (ob.c : Nat), .slice so ob.s.length sc, .pointer po])) x0 W), e0⟩ := hdep 3 28 (by kernel_rfl)
          obtain rfl : x0 = .agg #[.int .i64 ob.k, .int .i64 (ob.c : Nat), .slice so ob.s.length sc, .pointer po] := q0
          clear hB hdep
          refine goes_call (f := 25) (args := #[.agg #[.int .i64 ob.k, .int .i64 (ob.c : Nat), .slice so ob.s.length sc, .pointer po]]) ?_ ?_
          · simp only [execOp]
            go_simp
          · have hW := HBL.out.trans ((HB8.out.trans (hC.mono HB8.out.size)).mono HBL.out.size)
            exact (stocopied_any ob.k ob.c ob.s (.slice so ob.s.length sc) (.pointer po) ob.x _ W (HSR.out W hW) (by have := HSL.out; omega) (HPR.out W hW) HPX.out).mono fun e w7 ⟨sv7, pv7, M7, he, ho, hl, hM, hp, hb⟩ => ⟨_, he, hC.trans (hb.mono hC.size), hb, sv7, pv7, M7, rfl, Nat.le_trans hC.size hM, ownsRow_base ho hC.size, hl, hp.mono fun _ _ h => h.1⟩
        refine AllOps.cons ?_ ?_
        · refine OpL.early (by kernel_rfl) (by kernel_rfl) fun ab W hC hB hdep => ?_
          refine .inl ⟨rfl, ?_⟩
          obtain ⟨x0, (q0 : (isV (.slice (some ⟨rb, 0, none⟩) ms.length rc)) x0 W), e0⟩ := hdep 1 26 (by kernel_rfl)
          obtain rfl : x0 = .slice (some ⟨rb, 0, none⟩) ms.length rc := q0
          obtain ⟨x1, (q1 : (isV (.int .i64 ((k : Nat) : Int))) x1 W), e1⟩ := hdep 2 27 (by kernel_rfl)
          obtain rfl : x1 = .int .i64 ((k : Nat) : Int) := q1
          clear hB hdep
          refine goes_value (v := .pointer (some ⟨rb, k * 4, none⟩)) ?_ hC rfl
          simp only [execOp, Act.eval, e0, e1]
          go_simp
        refine AllOps.cons ?_ ?_
        · refine OpL.write (by kernel_rfl) fun vals ab W hC hB hdep => ⟨rfl, ?_⟩
          obtain ⟨(q0 : (isV (.pointer (some ⟨rb, k * 4, none⟩))) (vals 5) W), e0⟩ := hdep 5 30 (by kernel_rfl)
          generalize vals 5 = x0 at *
          obtain rfl : x0 = .pointer (some ⟨rb, k * 4, none⟩) := q0
          obtain ⟨(q1 : (isOC w8.heap.size ob.k ob.c ob.s ob.x) (vals 4) W), e1⟩ := hdep 4 29 (by kernel_rfl)
          generalize vals 4 = x1 at *
          obtain ⟨sv1, pv1, mm1, rfl, hM1, hs1, hl1, hp1⟩ := q1
          clear hB hdep
          obtain ⟨hkl, _⟩ := HMM.out
          obtain ⟨rb7, cap7, hrv7, _, _, _, _, hfz, c0, c1, c2, c3⟩ := (HC8.out.below hC).rowAt hkl
          rw [HC8.out.len] at hrv7
          simp only [Value.slice.injEq, Option.some.injEq, Addr.mk.injEq, and_true, true_and] at hrv7
          obtain ⟨rfl, _⟩ := hrv7
          obtain ⟨ls1, lc1, rfl⟩ := own_dslice hs1
          obtain ⟨lp1, rfl⟩ := PxAt.ptr hp1
          have z0 := hfz (k * 4)
          have z1 := hfz (k * 4 + 1)
          have z2 := hfz (k * 4 + 2)
          have z3 := hfz (k * 4 + 3)
          clear hfz
          refine writes_skip (w1 := (((W.setCell ⟨rb, k * 4, none⟩ _).setCell ⟨rb, k * 4 + 1, none⟩ _).setCell ⟨rb, k * 4 + 2, none⟩ _).setCell ⟨rb, k * 4 + 3, none⟩ _) ?_ ⟨_, _, _, _, rfl, rfl⟩
          simp only [execOp, Act.eval, e0, e1]
          go_simp
        exact trivial
      · intro vals aa W0 w9 hC hFin hB hall
        obtain ⟨(k0 : (isV (.pointer (some ⟨w.heap.size, 2, none⟩))) (vals 0) W0), e0⟩ := hall 0 _ rfl (by decide)
        obtain ⟨(k1 : (isV (.slice (some ⟨rb, 0, none⟩) ms.length rc)) (vals 1) W0), e1⟩ := hall 1 _ rfl (by decide)
        obtain ⟨(k2 : (isV (.int .i64 ((k : Nat) : Int))) (vals 2) W0), e2⟩ := hall 2 _ rfl (by decide)
        obtain ⟨(k3 : (isV (.agg #[.int .i64 ob.k, .int .i64 (ob.c : Nat), .slice so ob.s.length sc, .pointer po])) (vals 3) W0), e3⟩ := hall 3 _ rfl (by decide)
        obtain ⟨(k4 : (isOC w8.heap.size ob.k ob.c ob.s ob.x) (vals 4) W0), e4⟩ := hall 4 _ rfl (by decide)
        obtain ⟨(k5 : (isV (.pointer (some ⟨rb, k * 4, none⟩))) (vals 5) W0), e5⟩ := hall 5 _ rfl (by decide)
        have hv : ∀ pq ∈ [((25 : Nat), (.pointer (some ⟨w.heap.size, 2, none⟩) : Value)), ((26 : Nat), (.slice (some ⟨rb, 0, none⟩) ms.length rc : Value)), ((27 : Nat), (.int .i64 ((k : Nat) : Int) : Value)), ((28 : Nat), (.agg #[.int .i64 ob.k, .int .i64 (ob.c : Nat), .slice so ob.s.length sc, .pointer po] : Value)), ((29 : Nat), (vals 4 : Value)), ((30 : Nat), (.pointer (some ⟨rb, k * 4, none⟩) : Value))], aa.tmps.getD pq.1 undef = pq.2 := by
          intro pq hp
          simp only [List.mem_cons, List.not_mem_nil, or_false] at hp
          rcases hp with rfl | rfl | rfl | rfl | rfl | rfl
          · exact (e0 _ rfl).trans k0
          · exact (e1 _ rfl).trans k1
          · exact (e2 _ rfl).trans k2
          · exact (e3 _ rfl).trans k3
          · exact e4 _ rfl
          · exact (e5 _ rfl).trans k5
        have hact := act_fold _ hB hv (by kernel_rfl)
        subst hact
        obtain ⟨sv, pv, M, hva, hMM, hso, hsM, hpx⟩ := (k4 : isOC w8.heap.size ob.k ob.c ob.s ob.x (vals 4) W0)
        obtain ⟨a0, a1, a2, a3, hvb, rfl⟩ := hFin
        rw [hva] at hvb
        simp only [Value.agg.injEq, Array.mk.injEq, List.cons.injEq, and_true] at hvb
        obtain ⟨rfl, rfl, rfl, rfl⟩ := hvb
        obtain ⟨hkl, hmm⟩ := HMM.out
        have hcw := HC8.out.below hC
        have hst := hcw.step hkl (rb := rb) (cap := rc) (by rw [hcw.len]) ⟨ob, sv, pv⟩ (B := w8.heap.size) (M := M) (by rw [hmm]) (fun b hb => (HC8.out.lo b hb).2) HC8.out.bel.size hMM hso hsM hpx
        unfold set4 at hst
        have HST := Lib.hid hst
        generalize vals 4 = v4 at *
        generalize vals 0 = v0 at *
        clear hst hcw hkl hmm hso hsM hpx hMM hB hall hv hva k0 k1 k2 k3 k5 e0 e1 e2 e3 e4 e5 hC
        generalize (((W0.setCell ⟨rb, k * 4, none⟩ (.int .i64 ob.k)).setCell ⟨rb, k * 4 + 1, none⟩ (.int .i64 (ob.c : Nat))).setCell ⟨rb, k * 4 + 2, none⟩ sv).setCell ⟨rb, k * 4 + 3, none⟩ pv = wz at *
        refine (‹∀ (a : Act) (w : World), Code.wp Try.prog _ _ a w → _›) _ wz ?_
        simp only [List.foldl, List.setIfInBounds_toArray, List.set_cons_succ, List.set_cons_zero]
        go_wp2_with fail
        go_roundw
        case measure => simp only [intOf]; omega
        case rel =>
          obtain ⟨R'', hst⟩ := HST.out
          exact ⟨k + 1, R'', ms'.set k ⟨ob, sv, pv⟩, by omega, by go_num, hst⟩
    · obtain rfl : k = ms.length := by omega
      have hM3 := HM.out.below hc.bel
      obtain ⟨c0, c1, c2, c3, c4, _⟩ := hM3.boxf
      have HB := Lib.hid hc.bel
      clear hc hk hin
      go_wp2_with fail
      refine (stowns_any _ s.ns.length (s.ns.map Value.string) wr (RowV.of_own hM3.nrow) (by intro u hu; obtain ⟨_, _, rfl⟩ := List.mem_map.1 hu; rfl) (by have := HM.out.ok.nl; omega)).mono ?_
      rintro e w5 ⟨v5, rfl, ho5, hb5⟩
      obtain ⟨n5, nc5, rfl⟩ := own_dslice ho5
      have HO5 := Lib.hid ho5
      have HB5 := Lib.hid hb5
      have hgR : w.heap.size < wr.heap.size := (Array.getElem?_eq_some_iff.1 HC.out.box).1
      have X5 := Lib.hid ((hb5.block _ hgR).trans HC.out.box)
      have HX6 := Lib.hid ((rowSet X5.out 3 (.slice n5 s.ns.length nc5)).trans (by simp : _ = some (.cells #[.int .i64 (s.L : Nat), .int .i64 (s.U : Nat), .slice ro ms.length rc, .slice n5 s.ns.length nc5, .map mo] 69 (0, 0))))
      have HB6 : Hid (Below w.heap.size w (w5.setCell ⟨w.heap.size, 3, none⟩ (.slice n5 s.ns.length nc5))) := Lib.hid ((HB.out.trans (hb5.mono HB.out.size)).setCell (Nat.le_refl _) _)
      have HK6 : Hid (Keeps (fun b => b ≠ w.heap.size) wr (w5.setCell ⟨w.heap.size, 3, none⟩ (.slice n5 s.ns.length nc5))) := Lib.hid ((Keeps.of_below hb5).set (p := ⟨w.heap.size, 3, none⟩) (fun h => h rfl) _)
      have HO6 : Hid ((w5.setCell ⟨w.heap.size, 3, none⟩ (.slice n5 s.ns.length nc5)).ownsRow wr.heap.size 9 1 (.slice n5 s.ns.length nc5) s.ns.length (s.ns.map Value.string)) := Lib.hid (own_set ho5 X5.out (by decide) 3 _)
      have HZ6 : Hid (w5.heap.size ≤ (w5.setCell ⟨w.heap.size, 3, none⟩ (.slice n5 s.ns.length nc5)).heap.size) := Lib.hid (by simp)
      have d3 := cell_heap X5.out 3
      have z3 := frozen_heap X5.out 3
      clear ho5 hb5 hM3 c0 c1 c2 c3 c4
      go_upto_region 11 with fail
      generalize w5.setCell ⟨w.heap.size, 3, none⟩ (.slice n5 s.ns.length nc5) = w6 at *
      clear d3 z3 X5
      have hM6 := HM.out.below HB6.out
      obtain ⟨c0, c1, c2, c3, c4, _⟩ := hM6.boxf
      have d4 := cell_heap HX6.out 4
      have z4 := frozen_heap HX6.out 4
      have HCF := Lib.hid HC.out
      have hnM : ∀ b, (Value.slice n5 s.ns.length nc5).ownBlock = some b → b < w5.heap.size := fun b hb => (HO5.out.lt b hb).2
      have HNM := Lib.hid hnM
      have hll : CpM w wr w.heap.size R' s ms ms' (.slice ro ms.length rc) (.slice no s.ns.length nc) (.map mo) ms'.length := by have := HC.out; rw [this.len]; exact this
      have HLL := Lib.hid hll
      have HMP := Lib.hid hM6.map
      clear hnM hll hM6
      cases mo with
      | none =>
        have hns : s.ns = [] := by rcases HMP.out with ⟨_, h⟩ | ⟨_, h, _⟩; exact h; cases h
        have HNS := Lib.hid hns
        clear hns
        go_wp2_with fail
        refine (mclone_nil w6).mono ?_
        rintro e w7 ⟨rfl, hw⟩
        subst hw
        go_wp2_with fail
        go_ret
        have hX7 := (rowSet HX6.out 4 (.map none)).trans (by simp : _ = some (.cells #[.int .i64 (s.L : Nat), .int .i64 (s.U : Nat), .slice ro ms.length rc, .slice n5 s.ns.length nc5, .map none] 69 (0, 0)))
        obtain ⟨R2, h1, h2⟩ := HLL.out.fin HM.out hX7 (HK6.out.set (p := ⟨w.heap.size, 4, none⟩) (fun h => h rfl) _) (own_set HO6.out HX6.out (by decide) 4 _) HNM.out HB5.out.size (.inl ⟨rfl, HNS.out⟩)
        exact ⟨_, R2, rfl, h1, h2, HB6.out.setCell (Nat.le_refl _) _⟩
      | some mb =>
        obtain ⟨es, clock, hes, hms⟩ : ∃ es clock, w6.heap[mb]? = some (.map es clock) ∧ (es.size = s.ns.length ∧ ∀ i (h : i < s.ns.length), ∃ e, es[i]? = some e ∧ e.key = .string (s.ns[i]'h) ∧ e.val = .int .i64 (i : Nat)) := by
          rcases HMP.out with ⟨h, _⟩ | ⟨b, h, _, es, clock, h1, h2⟩
          · cases h
          · injection h with h; injection h with h; subst h
            exact ⟨es, clock, h1, h2⟩
        have HES := Lib.hid hms
        clear hms
        have hgl6 : w.heap.size < w6.heap.size := (Array.getElem?_eq_some_iff.1 HX6.out).1
        go_wp2_with fail
        refine (mclone_any mb es clock w6 hes).mono ?_
        rintro e w7 ⟨rfl, hw⟩
        have hal := below1 w6 (.map es clock)
        have X7 := Lib.hid ((hal.block _ hgl6).trans HX6.out)
        have HK7 := Lib.hid (HK6.out.trans (Keeps.of_below hal))
        have HB7 := Lib.hid (HB6.out.trans (hal.mono HB6.out.size))
        have HO7 := Lib.hid (ownsRow_keep HO6.out (Keeps.of_below (P := fun _ => True) hal) fun _ _ => trivial)
        have HMN := Lib.hid (heap_alloc_new w6 (.map es clock))
        rw [← hw] at X7 HK7 HB7 HO7 HMN
        clear hw hal d4 z4 hes
        have d4 := cell_heap X7.out 4
        have z4 := frozen_heap X7.out 4
        go_wp2_with fail
        go_ret
        have hX7 := (rowSet X7.out 4 (.map (some w6.heap.size))).trans (by simp : _ = some (.cells #[.int .i64 (s.L : Nat), .int .i64 (s.U : Nat), .slice ro ms.length rc, .slice n5 s.ns.length nc5, .map (some w6.heap.size)] 69 (0, 0)))
        have hlt : w6.heap.size < w7.heap.size := (Array.getElem?_eq_some_iff.1 HMN.out).1
        have hne : w6.heap.size ≠ w.heap.size := by omega
        obtain ⟨R2, h1, h2⟩ := HLL.out.fin HM.out hX7 (HK7.out.set (p := ⟨w.heap.size, 4, none⟩) (fun h => h rfl) _) (own_set HO7.out X7.out (by decide) 4 _) HNM.out HB5.out.size (.inr ⟨w6.heap.size, rfl, HZ6.out, by simpa using hlt, es, clock, (Below.heap_setCell _ _ _ _ hne).trans HMN.out, HES.out⟩)
        exact ⟨_, R2, rfl, h1, h2, HB7.out.setCell (Nat.le_refl _) _⟩
theorem stcopy_any (g : Nat) (R : Nat → Nat) (s : St) (w : World) (h : StW w g R s) (hx : ∀ o ∈ s.os, PxSm o.x) (_h1 : 1 ≤ s.os.length) :
    Calls Try.prog 8 #[.pointer (some ⟨g, 0, none⟩)] w fun e w' => ∃ g2 R2, e = .returned (.pointer (some ⟨g2, 0, none⟩)) ∧ StW w' g2 R2 s ∧ (∀ b, R2 b ≠ 0 → w.heap.size ≤ b) ∧ Below w.heap.size w w' := stcopy_all g R s w h hx
end Go.Proofs.Ytioidaojnbenbaa
