/- law09's own: a wrap that shares nothing. -/
import Derived.Test.YtoefkhpgabmieaaWpAround
import Derived.Laws.CopyRow
namespace Go.Proofs.Ytoefkhpgabmieaa
open Go.RowKit

def isEmp : Value → World → Prop := fun v W => ∃ g, v = .slice (some ⟨g, 0, none⟩) 0 0 ∧ W.heap[g]? = some (.cells #[] 3 (0, 0))
theorem isEmp_stays : Stays isEmp := fun _ _ _ hb ⟨g, h1, h2⟩ => ⟨g, h1, (hb.block g (Array.getElem?_eq_some_iff.1 h2).1).trans h2⟩
/-- Onto a row with no room at all: what was there stays. -/
theorem run_append_emp (W : World) (g : Nat) (ty : TypeId) (hg : W.heap[g]? = some (.cells #[] 3 (0, 0))) (x : Value) (zs : List Int) (hx : Iz W x zs) (hl : zs.length ≤ 1000000) :
    ∃ v' W', (Builtin.append_ #[22, 22] ty #[.slice (some ⟨g, 0, none⟩) 0 0, x]).run Try.prog W = .ok v' W' ∧ Iz W' v' zs ∧ Below W.heap.size W W' := by
  obtain ⟨i0, hi, hz0, hz1, hz2⟩ := info_parts infoInt
  obtain ⟨hm, ao, cap, rfl, hc, hr⟩ := hx.cases
  cases ao with
  | none =>
    rcases hr with ⟨rfl, h0⟩ | ⟨b, off, e, _⟩
    · obtain rfl := h0 rfl
      exact ⟨_, _, run_append_owned_none (P := Try.prog) (w := W) 0 22 ty 3 i0 1 Try.underlying22 hi _ 0 [] ⟨rfl, .inr ⟨g, 0, #[], rfl, Nat.zero_le _, hg, Nat.le_refl _, Nat.zero_le _, rfl, rfl⟩⟩, Iz.empty _ _ _, Below.refl _ _⟩
    · cases e
  | some ad =>
    have hnews : ∀ j u, (ic zs)[j]? = some u → W.cell? (ad.add j) = some u := by
      intro j u hu
      have hj : j < zs.length := by rw [← ic_len zs]; exact (List.getElem?_eq_some_iff.1 hu).1
      rcases hr with ⟨h0, _⟩ | ⟨b, off, e1, _, hcell⟩
      · rw [h0] at hj; simp at hj
      · injection e1 with e1
        subst e1
        rw [Addr.add_mid, hcell j hj, ← hu, ic_at hj]
    rcases Nat.eq_zero_or_pos zs.length with h0 | hp
    · obtain rfl : zs = [] := List.eq_nil_of_length_eq_zero h0
      have hr2 := run_append_room (P := Try.prog) W 22 ty 3 i0 Try.underlying22 hi g 0 0 #[] hg ad 0 cap [] (by simp) (by simp) (by simp) (Nat.le_refl _) (by simp)
      refine ⟨_, _, hr2, Iz.empty _ _ _, ?_⟩
      have e : (((#[] : Array Value).toList.take (0 * i0.size) ++ [] ++ (#[] : Array Value).toList.drop (0 * i0.size + ([] : List Value).length)).toArray) = #[] := by simp
      rw [e, setRow_self W g #[] _ _ hg]
      exact Below.refl _ _
    · have hr2 := run_append_grow (P := Try.prog) W 22 ty 3 i0 (.int .i64 0) Try.underlying22 hi hz0 ⟨g, 0, none⟩ 0 0 [] (by simp) (by simp) ad zs.length cap (ic zs) (by rw [ic_len, hz1, Nat.mul_one]) hnews (by omega) (by omega) (by rw [hz2]; exact growslice_fits (by omega) (by omega))
      refine ⟨_, _, hr2, ?_, (Below.refl _ W).drew.alloc (Nat.le_refl _) _⟩
      rw [Nat.zero_add]
      refine Iz.mk rfl hm (grownCap_ge _ _ _ _) (by simp) fun j hj => ?_
      rw [cell_of_row _ W.heap.size (0 + j) _ _ (0, 0) (heap_alloc_new W.drew _), Nat.zero_add, ← ic_at hj]
      have hjl : j < (ic zs).length := by rw [ic_len]; exact hj
      simp only [List.nil_append, Array.empty_append] at *
      rw [Array.getElem?_append_left (by simpa using hjl)]
      simp

set_option maxRecDepth 100000 in
set_option maxHeartbeats 4000000 in
theorem lown_any (x : Value) (m s : List Int) (w : World) (hx : Wr w x m s) (h1 : m.length ≤ 10000) (h2 : s.length ≤ 10000) :
    Calls Try.prog 12 #[x] w fun e w' => (∃ z, e = .returned z ∧ Wr w' z m s) ∧ Below w.heap.size w w' := by
  obtain ⟨mv, sv, rfl, hm, hs⟩ := hx.cells
  obtain ⟨_, ma, mc, hmv, _, _⟩ := hm.cases
  obtain ⟨_, sa, sc, hsv, _, _⟩ := hs.cases
  generalize hml : m.length = ml at hmv
  generalize hsl : s.length = sl at hsv
  subst hmv hsv
  have HM := Lib.hid hm
  have HS := Lib.hid hs
  have HLN := Lib.hid (And.intro h1 h2)
  clear hx hm hs h1 h2 hml hsl
  have HB1 := Lib.hid (below2 w (.cells #[.slice ma ml mc, .slice sa sl sc] 24) (.cells #[.slice none 0 0, .slice none 0 0] 24))
  have HN1 := Lib.hid (@newsp2 w (.cells #[.slice ma ml mc, .slice sa sl sc] 24) (.cells #[.slice none 0 0, .slice none 0 0] 24))
  go_enter Try.func12, Try.ntmps12
  go_upto_region 1 with fail
  generalize (w.alloc (.cells #[.slice ma ml mc, .slice sa sl sc] 24)).alloc (.cells #[.slice none 0 0, .slice none 0 0] 24) = w1 at *
  have HWB : Hid (w.heap.size + 1 < w1.heap.size) := Lib.hid (Array.getElem?_eq_some_iff.1 HN1.out.2).1
  have HXV : Hid (∀ W, Below w1.heap.size w1 W → W.cell? ⟨w.heap.size, 0, none⟩ = some (.slice ma ml mc) ∧ W.cell? ⟨w.heap.size, 1, none⟩ = some (.slice sa sl sc)) := Lib.hid fun W hW => by
    have hwb := HWB.out
    have k0 := rowp2 ((hW.block _ (show w.heap.size < w1.heap.size by omega)).trans HN1.out.1)
    exact ⟨k0.1, k0.2.1⟩
  have HRB : Hid (∀ W, Below w1.heap.size w1 W → W.heap[w.heap.size + 1]? = some (.cells #[.slice none 0 0, .slice none 0 0] 24 (0, 0))) := Lib.hid fun W hW => (hW.block _ HWB.out).trans HN1.out.2
  refine wp_region_late 9 8 8 11 11 (psi [isEmp, isV (.pointer (some ⟨w.heap.size, 0, none⟩)), isV (.slice ma ml mc), isIz m, isEmp, isV (.pointer (some ⟨w.heap.size, 1, none⟩)), isV (.slice sa sl sc), isIz s, isWr m s, nothing]) (fun W => Below w1.heap.size w1 W) (Fills (w.heap.size + 1)) (by kernel_rfl) (Below.refl _ _).drew (psi_mono ?_) (by kernel_rfl) (by kernel_rfl) (by kernel_rfl) ?_ ?_
  · intro p hp
    simp only [List.mem_cons, List.not_mem_nil, or_false] at hp
    (repeat' rcases hp with rfl | hp) <;> first | exact isV_stays _ | exact nothing_stays | (subst hp; first | exact isV_stays _ | exact nothing_stays) | exact isEmp_stays | exact isIz_stays _ | exact isWr_stays _ _ | (subst hp; exact isEmp_stays) | (subst hp; exact isIz_stays _) | (subst hp; exact isWr_stays _ _)
  · refine AllOps.cons ?_ ?_
    · refine OpL.early (by kernel_rfl) (by kernel_rfl) fun ab W hC hB hdep => ?_
      refine .inl ⟨rfl, ?_⟩
      clear hB hdep
      refine goes_world (v := .slice (some ⟨W.heap.size, 0, none⟩) 0 0) (w1 := W.alloc (.cells #[] 3)) ?_ (hC.trans ((below1 W _).mono hC.size)) (below1 W _) ⟨_, rfl, heap_alloc_new W _⟩
      simp only [execOp]
      go_simp
    refine AllOps.cons ?_ ?_
    · refine OpL.early (by kernel_rfl) (by kernel_rfl) fun ab W hC hB hdep => ?_
      refine .inl ⟨rfl, ?_⟩
      have b0 : ab.tmps.getD 1 undef = .pointer (some ⟨w.heap.size, 0, none⟩) := hB.off 1 (by kernel_rfl)
      clear hB hdep
      refine goes_value (v := .pointer (some ⟨w.heap.size, 0, none⟩)) ?_ hC rfl
      simp only [execOp, Act.eval, b0]
      go_simp
    refine AllOps.cons ?_ ?_
    · refine OpL.early (by kernel_rfl) (by kernel_rfl) fun ab W hC hB hdep => ?_
      refine .inl ⟨rfl, ?_⟩
      obtain ⟨x0, (q0 : (isV (.pointer (some ⟨w.heap.size, 0, none⟩))) x0 W), e0⟩ := hdep 1 4 (by kernel_rfl)
      obtain rfl : x0 = .pointer (some ⟨w.heap.size, 0, none⟩) := q0
      obtain ⟨c0, c1⟩ := HXV.out W hC
      clear hB hdep
      refine goes_value (v := .slice ma ml mc) ?_ hC rfl
      simp only [execOp, Act.eval, e0]
      go_simp
    refine AllOps.cons ?_ ?_
    · refine OpL.early (by kernel_rfl) (by kernel_rfl) fun ab W hC hB hdep => ?_
      refine .inl ⟨rfl, ?_⟩
      obtain ⟨x0, (q0 : (isEmp) x0 W), e0⟩ := hdep 0 3 (by kernel_rfl)
      obtain ⟨g0, rfl, hg0⟩ := q0
      obtain ⟨x1, (q1 : (isV (.slice ma ml mc)) x1 W), e1⟩ := hdep 2 5 (by kernel_rfl)
      obtain rfl : x1 = .slice ma ml mc := q1
      clear hB hdep
      have hW := HB1.out.trans (hC.mono HB1.out.size)
      obtain ⟨v5, W5, hr5, hi5, hb5⟩ := run_append_emp W g0 22 hg0 _ m (HM.out.below hW) (by have := HLN.out; omega)
      refine goes_world (v := v5) (w1 := W5) ?_ (hC.trans (hb5.mono hC.size)) hb5 hi5
      unfold execOp
      simp only [resolve, invoke, builtin, Act.eval, Sem.run_bind, Sem.run_pure, Result.andThen_ok, List.map_toArray, List.map_cons, List.map_nil, e0, e1, hr5]
    refine AllOps.cons ?_ ?_
    · refine OpL.early (by kernel_rfl) (by kernel_rfl) fun ab W hC hB hdep => ?_
      refine .inl ⟨rfl, ?_⟩
      clear hB hdep
      refine goes_world (v := .slice (some ⟨W.heap.size, 0, none⟩) 0 0) (w1 := W.alloc (.cells #[] 3)) ?_ (hC.trans ((below1 W _).mono hC.size)) (below1 W _) ⟨_, rfl, heap_alloc_new W _⟩
      simp only [execOp]
      go_simp
    refine AllOps.cons ?_ ?_
    · refine OpL.early (by kernel_rfl) (by kernel_rfl) fun ab W hC hB hdep => ?_
      refine .inl ⟨rfl, ?_⟩
      have b0 : ab.tmps.getD 1 undef = .pointer (some ⟨w.heap.size, 0, none⟩) := hB.off 1 (by kernel_rfl)
      clear hB hdep
      refine goes_value (v := .pointer (some ⟨w.heap.size, 1, none⟩)) ?_ hC rfl
      simp only [execOp, Act.eval, b0]
      go_simp
    refine AllOps.cons ?_ ?_
    · refine OpL.early (by kernel_rfl) (by kernel_rfl) fun ab W hC hB hdep => ?_
      refine .inl ⟨rfl, ?_⟩
      obtain ⟨x0, (q0 : (isV (.pointer (some ⟨w.heap.size, 1, none⟩))) x0 W), e0⟩ := hdep 5 8 (by kernel_rfl)
      obtain rfl : x0 = .pointer (some ⟨w.heap.size, 1, none⟩) := q0
      obtain ⟨c0, c1⟩ := HXV.out W hC
      clear hB hdep
      refine goes_value (v := .slice sa sl sc) ?_ hC rfl
      simp only [execOp, Act.eval, e0]
      go_simp
    refine AllOps.cons ?_ ?_
    · refine OpL.early (by kernel_rfl) (by kernel_rfl) fun ab W hC hB hdep => ?_
      refine .inl ⟨rfl, ?_⟩
      obtain ⟨x0, (q0 : (isEmp) x0 W), e0⟩ := hdep 4 7 (by kernel_rfl)
      obtain ⟨g0, rfl, hg0⟩ := q0
      obtain ⟨x1, (q1 : (isV (.slice sa sl sc)) x1 W), e1⟩ := hdep 6 9 (by kernel_rfl)
      obtain rfl : x1 = .slice sa sl sc := q1
      clear hB hdep
      have hW := HB1.out.trans (hC.mono HB1.out.size)
      obtain ⟨v5, W5, hr5, hi5, hb5⟩ := run_append_emp W g0 22 hg0 _ s (HS.out.below hW) (by have := HLN.out; omega)
      refine goes_world (v := v5) (w1 := W5) ?_ (hC.trans (hb5.mono hC.size)) hb5 hi5
      unfold execOp
      simp only [resolve, invoke, builtin, Act.eval, Sem.run_bind, Sem.run_pure, Result.andThen_ok, List.map_toArray, List.map_cons, List.map_nil, e0, e1, hr5]
    refine AllOps.cons ?_ ?_
    · refine OpL.early (by kernel_rfl) (by kernel_rfl) fun ab W hC hB hdep => ?_
      refine .inl ⟨rfl, ?_⟩
      obtain ⟨x0, (q0 : (isIz m) x0 W), e0⟩ := hdep 3 6 (by kernel_rfl)
      obtain ⟨_, ao0, ac0, rfl, _, _⟩ := Iz.cases q0
      obtain ⟨x1, (q1 : (isIz s) x1 W), e1⟩ := hdep 7 10 (by kernel_rfl)
      obtain ⟨_, ao1, ac1, rfl, _, _⟩ := Iz.cases q1
      clear hB hdep
      refine goes_value (v := .agg #[.slice ao0 m.length ac0, .slice ao1 s.length ac1]) ?_ hC ⟨_, _, rfl, q0, q1⟩
      simp only [Array.getD_eq_getD_getElem?] at e0 e1
      simp only [execOp]
      go_simp
    refine AllOps.cons ?_ ?_
    · refine OpL.write (by kernel_rfl) fun vals ab W hC hB hdep => ⟨rfl, ?_⟩
      obtain ⟨(q0 : (isWr m s) (vals 8) W), e0⟩ := hdep 8 11 (by kernel_rfl)
      generalize vals 8 = x0 at *
      obtain ⟨u0, v0, rfl, hu0, hv0⟩ := Wr.cells q0
      obtain ⟨_, uo0, uc0, rfl, _, _⟩ := hu0.cases
      obtain ⟨_, vo0, vc0, rfl, _, _⟩ := hv0.cases
      have b0 : ab.tmps.getD 2 undef = .pointer (some ⟨w.heap.size + 1, 0, none⟩) := hB.off 2 (by kernel_rfl)
      clear hB hdep
      obtain ⟨za, z0, z1, z2⟩ := rowp2 (HRB.out W hC)
      refine writes_skip (w1 := (W.setCell ⟨w.heap.size + 1, 0, none⟩ _).setCell ⟨w.heap.size + 1, 1, none⟩ _) ?_ ⟨_, _, rfl, rfl⟩
      simp only [execOp, Act.eval, e0, b0]
      go_simp
    exact trivial
  · intro vals aa W0 w8 hC hFin hB hall
    obtain ⟨(k8 : (isWr m s) (vals 8) W0), e8⟩ := hall 8 _ rfl (by decide)
    have s11 : aa.tmps.getD 11 undef = vals 8 := e8 _ rfl
    have s2 : aa.tmps.getD 2 undef = .pointer (some ⟨w.heap.size + 1, 0, none⟩) := hB.off 2 (by kernel_rfl)
    have hsz : aa.tmps.size = 12 := hB.size
    have hdf : aa.defers = [] := hB.defers
    clear hall hB
    obtain ⟨a, b, hab, rfl⟩ := hFin
    have hrow := HRB.out W0 hC
    have hwr : Wr W0 (vals 8) m s := k8
    rw [hab] at hwr
    have hw2 := hwr.fill hrow a b
    have hp := putp2 hrow a b
    obtain ⟨p0, p1, _, _⟩ := rowp2 hp
    have hbel : Below w.heap.size w ((W0.setCell ⟨w.heap.size + 1, 0, none⟩ a).setCell ⟨w.heap.size + 1, 1, none⟩ b) := ((HB1.out.trans (hC.mono HB1.out.size)).setCell (by simp) _).setCell (by simp) _
    refine (‹∀ (a : Act) (w : World), Code.wp Try.prog _ _ a w → _›) _ _ ?_
    have s2' : aa.tmps[2]?.getD undef = .pointer (some ⟨w.heap.size + 1, 0, none⟩) := by rw [← Array.getD_eq_getD_getElem?]; exact s2
    go_wp2_with fail
    refine bodyPost_ret (v := .agg #[a, b]) (by simp [results, Try.results12, go_sem, p0, p1, s2']) hdf ?_
    exact ⟨⟨_, rfl, hw2⟩, hbel⟩
end Go.Proofs.Ytoefkhpgabmieaa
