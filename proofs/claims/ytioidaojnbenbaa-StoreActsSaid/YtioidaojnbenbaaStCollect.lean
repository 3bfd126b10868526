/- Collect: keep, walked, and the whole. -/
import Derived.Test.YtioidaojnbenbaaStKeep
import Derived.Test.YtioidaojnbenbaaStSet
namespace Go.Proofs.Ytioidaojnbenbaa
open Go.RowKit

theorem zeroObj (w : World) : (zeroValue 73).run Try.prog w = .ok (.agg #[.int .i64 0, .int .i64 0, .slice none 0 0, .pointer none]) w := by
  obtain ⟨i0, hi, hz0, _, _⟩ := info_parts infoObj
  simp [zeroValue, typeInfo, hi, hz0]

set_option maxRecDepth 100000 in
set_option maxHeartbeats 4000000 in
theorem stkeep_nil (g : Nat) (R : Nat → Nat) (s : St) (nv mv : Value) (K : Nat → Bool) (na : Option Addr) (nl nc : Nat) (w : World) (h : StM w g R s [] (.slice none 0 0) nv mv) :
    Calls Try.prog 55 #[.pointer (some ⟨g, 0, none⟩), .slice na nl nc] w fun e w' => e = .returned (.tuple #[]) ∧ StW w' g (Rleft K R) (s.left K) ∧ Fr R w w' := by
  have HM := Lib.hid h
  obtain ⟨c0, c1, c2, c3, c4, f1, f2, _⟩ := h.boxf
  have hgR := h.gR
  have hcl : ∀ (w : World) (ty : TypeId), (Builtin.clear_ #[66] ty #[.slice none 0 0]).run Try.prog w = .ok (.tuple #[]) w := fun w ty => by simp [Builtin.clear_, run_underlying Try.underlying66]
  clear h
  go_enter Try.func55, Try.ntmps55
  go_wp2_with fail
  go_loopw [4, 20] (fun c v wr => v = .int .i64 0 ∧ c = .slice none 0 0 ∧ wr = w.setCell ⟨g, 1, none⟩ (.int .i64 0)) (fun _ _ _ => 0)
  case atStart => exact ⟨rfl, rfl, rfl⟩
  case round =>
    obtain ⟨rfl, rfl, rfl⟩ := hrel
    go_wp2_with fail
    go_end0
    have hos : s.os = [] := HM.out.eqs
    have hU : s.U = 0 := by have := HM.out.ok.sum; rw [hos] at this; simpa using this.symm
    have hsl : s.left K = s := by
      unfold St.left
      rw [hos]
      show ({ s with U := 0, os := [] } : St) = s
      cases s
      simp only at hos hU
      simp [hos, hU]
    have hbx : ((w.setCell ⟨g, 1, none⟩ (.int .i64 0)).setCell ⟨g, 2, none⟩ (.slice none 0 0)).heap[g]? = w.heap[g]? := by
      rw [rowSet (rowSet HM.out.box 1 _) 2 _, HM.out.box, hU]
      rfl
    have hk : Keeps (fun _ => True) w ((w.setCell ⟨g, 1, none⟩ (.int .i64 0)).setCell ⟨g, 2, none⟩ (.slice none 0 0)) := ⟨by simp, fun b hb _ => by
      by_cases e : b = g
      · subst e; exact hbx
      · rw [Below.heap_setCell _ _ _ _ (by simpa using e), Below.heap_setCell _ _ _ _ (by simpa using e)]⟩
    have hm2 := HM.out.keep (hk.mono fun _ _ _ => trivial)
    rw [hsl]
    exact ⟨rfl, ⟨[], .slice none 0 0, nv, mv, hm2.ok, hm2.eqs, fun b hb => hm2.lt b fun h0 => hb (Rleft_zero.2 h0), (by rw [Rleft_low (by omega)]; exact hgR), hm2.box, hm2.orow, fun b hb => (by cases hb), fun i hi => (by simp at hi), fun i hi => (by simp at hi), fun i hi => (by simp at hi), hm2.nrow, fun b hb => (by rw [Rleft_low (by rw [hm2.nR b hb]; omega)]; exact hm2.nR b hb), hm2.map.role fun b hb => (by rw [Rleft_low (by omega)]; exact hb)⟩, ((Fr.refl R w).set (p := ⟨g, 1, none⟩) (.inr (by show R g ≠ 0; omega)) _).set (p := ⟨g, 2, none⟩) (.inr (by show R g ≠ 0; omega)) _⟩

set_option maxRecDepth 100000 in
set_option maxHeartbeats 8000000 in
theorem stkeep_row (g : Nat) (R : Nat → Nat) (s : St) (ms : List OM) (b cap : Nat) (nv mv : Value) (K : Nat → Bool) (nb : Nat) (w : World) (h : StM w g R s ms (.slice (some ⟨b, 0, none⟩) ms.length cap) nv mv) (hN : IRow w nb (nums K ms.length)) (hRn : R nb = 0)
    (hK : ∀ (m n : Nat) (o : Ob), K m = true → s.os[m]? = some o → ((7 : Int), (n : Int)) ∈ o.s → K n = true) :
    Calls Try.prog 55 #[.pointer (some ⟨g, 0, none⟩), .slice (some ⟨nb, 0, none⟩) ms.length ms.length] w fun e w' => e = .returned (.tuple #[]) ∧ StW w' g (Rleft K R) (s.left K) ∧ Fr R w w' := by
  obtain ⟨i0, hi, hz0, hz1, hz2⟩ := info_parts infoObj
  have HI := Lib.hid (And.intro hi hz1)
  clear hi hz0 hz1 hz2
  have HM := Lib.hid h
  have HN := Lib.hid hN
  have HK := Lib.hid hK
  obtain ⟨c0, c1, c2, c3, c4, f1, f2, _⟩ := h.boxf
  have HGR := Lib.hid h.gR
  have HBR := Lib.hid (h.oR b rfl)
  have HSR := Lib.hid h.sR
  have hln : ms.length ≤ 1048576 := by rw [← h.len]; exact h.ok.len
  have hcap : ms.length ≤ cap := by
    rcases h.orow.2 with ⟨h0, _⟩ | ⟨_, _, _, e, _, _, h1, _⟩
    · cases h0
    · simp only [Value.slice.injEq, true_and] at e; omega
  have hbw : b < w.heap.size := (h.orow.lt b rfl).2
  have hgb : g ≠ b := fun e => by have := h.gR; have := h.oR b rfl; rw [e] at *; omega
  have HU : Hid (s.U ≤ 1048576) := Lib.hid (Nat.le_trans h.ok.UL h.ok.LM)
  have HK0 := Lib.hid (KpI.use h.gR (h.oR b rfl) h.sR h.kpi 0 (y := 0) rfl)
  clear h hN hK
  go_enter Try.func55, Try.ntmps55
  go_wp2_with fail
  clear c0 c1 c2 c3 c4 f1 f2
  go_loopw [4, 20] (fun c v wr => ∃ k : Nat, k ≤ ms.length ∧ v = .int .i64 (k : Nat) ∧ c = .slice (some ⟨b, 0, none⟩) (plc K k) cap ∧ KpI w wr g R s ms b cap nv mv (useK K ms k) (rowK K ms k) (slK K ms k)) (fun _ v _ => ms.length - (intOf v).toNat)
  case atStart => exact ⟨0, Nat.zero_le _, rfl, rfl, by rw [slK_zero]; simpa [rowK, plc_zero, kpt_zero, omLs, useK] using HK0.out⟩
  case round =>
    obtain ⟨k, hk, rfl, rfl, hkp⟩ := hrel
    have HKP := Lib.hid hkp
    have hpl := plc_le K k
    by_cases hlt : k < ms.length
    · have hii : ((k : Nat) : Int) < ((ms.length : Nat) : Int) := by omega
      have hcells := hkp.row.cells (g := b) rfl
      obtain ⟨q0, q1, q2, q3⟩ := omLs_get ms k hlt
      have p0 := hcells _ _ ((rowK_at (K := K) hlt 0).trans q0)
      have p1 := hcells _ _ ((rowK_at (K := K) hlt 1).trans q1)
      have p2 := hcells _ _ ((rowK_at (K := K) hlt 2).trans q2)
      have p3 := hcells _ _ ((rowK_at (K := K) hlt 3).trans q3)
      rw [Addr.add_mid, Nat.zero_add] at p0 p1 p2 p3
      rw [Nat.add_zero] at p0
      have hNr := HN.out.keep hkp.kp (.inl hRn)
      have HNR := Lib.hid hNr
      have hnl := hNr.lt
      have hc := hNr.cell (j := k) (by rw [nums_len]; exact hlt)
      rw [nums_at K hlt] at hc
      obtain ⟨so, sc, hsv⟩ := own_dslice (HM.out.srow k hlt)
      obtain ⟨po, hpv⟩ : ∃ po, ms[k].pv = .pointer po := by
        have hp := HM.out.prow k hlt
        cases hx : ms[k].o.x with
        | none => rw [hx] at hp; exact ⟨_, hp⟩
        | some p => rw [hx] at hp; obtain ⟨b, _, _, _, _, e, _⟩ := hp; exact ⟨_, e⟩
      rw [hsv] at p2
      rw [hpv] at p3
      have HSV := Lib.hid hsv
      have HPV := Lib.hid hpv
      clear hcells q0 q1 q2 q3 hNr hsv hpv hkp
      cases hKk : K k with
      | false =>
        rw [hKk] at hc
        simp only [Bool.false_eq_true, if_false] at hc
        have HKK := Lib.hid hKk
        clear hKk
        go_wp2_with fail
        go_roundw
        case measure => simp only [intOf]; omega
        case rel =>
          refine ⟨k + 1, by omega, by go_num, by rw [plc_succ, HKK.out]; rfl, ?_⟩
          rw [useK_succ hlt, rowK_succ_no HKK.out hlt, slK_succ_no HKK.out, HKK.out]
          exact HKP.out.below (by repeat (first | exact Below.refl _ _ | refine Below.setCell ?_ (by simp) _ | refine Below.alloc ?_ (by simp) _))
      | true =>
        rw [hKk] at hc
        simp only [if_true] at hc
        have hq : (((plc K k : Nat) : Int) != -1) = true := by rw [bne_iff_ne]; omega
        have HKK := Lib.hid hKk
        clear hKk
        have hok := HM.out.ok
        have hsz : (ms[k]'hlt).o.s.length ≤ 1048576 := hok.slots (by rw [HM.out.eqs]; exact List.mem_map_of_mem (List.getElem_mem hlt))
        have hmem : (ms[k]'hlt).o ∈ s.os := by rw [HM.out.eqs]; exact List.mem_map_of_mem (List.getElem_mem hlt)
        have HMEM := Lib.hid hmem
        have hb1 := below1 wr (.cells #[.int .i64 ms[k].o.k, .int .i64 (ms[k].o.c : Nat), .slice so ms[k].o.s.length sc, .pointer po] 73)
        have HN1 := Lib.hid (box1 wr #[.int .i64 ms[k].o.k, .int .i64 (ms[k].o.c : Nat), .slice so ms[k].o.s.length sc, .pointer po] 73)
        have HKP1 := Lib.hid (HKP.out.below hb1)
        have HREN := strenumber_any (.slice so ms[k].o.s.length sc) ms[k].o.s nb (nums K ms.length) ms.length (wr.alloc (.cells #[.int .i64 ms[k].o.k, .int .i64 (ms[k].o.c : Nat), .slice so ms[k].o.s.length sc, .pointer po] 73)) (by
          have := HKP1.out.srow k hlt
          rw [slK_at hlt, HSV.out] at this
          exact this) (HNR.out.below hb1) (fun e => by have := HSR.out k hlt nb (by rw [HSV.out]; exact e); omega) (fun v hv h7 => by
          obtain ⟨n, rfl, hn⟩ := sd_in (hok.snd _ hmem v hv) h7
          exact ⟨n, rfl, by rw [nums_len, ← HM.out.len]; exact hn⟩) (by rw [nums_len]; omega)
        rw [nums_len] at HREN
        have HREN := Lib.hid HREN
        clear hb1 hok hmem
        go_wp2_with fail
        refine HREN.out.mono ?_
        rintro e w2 ⟨rfl, hrow2, hfr2⟩
        have hmv : ms[k].o.s.map (rn (nums K ms.length)) = ms[k].o.s.map (mvV K) := List.map_congr_left fun v hv => rn_mv (nn := s.ns.length) (by rw [← HM.out.len]; exact HM.out.ok.snd _ HMEM.out v hv) fun m hm => HK.out k m ms[k].o HKK.out (by rw [HM.out.eqs]; simp [hlt]) (by rw [← hm]; exact hv)
        rw [hmv, ← HSV.out] at hrow2
        have hfr3 : Fr (only ms[k].sv) (wr.alloc (.cells #[.int .i64 ms[k].o.k, .int .i64 (ms[k].o.c : Nat), .slice so ms[k].o.s.length sc, .pointer po] 73)) w2 := by rw [HSV.out]; exact hfr2
        have HKP2 := Lib.hid (KpI.ren HGR.out HBR.out HSR.out HKP1.out hlt hrow2 hfr3)
        have hx2 : w2.heap[wr.heap.size]? = some (.cells #[.int .i64 ms[k].o.k, .int .i64 (ms[k].o.c : Nat), .slice so ms[k].o.s.length sc, .pointer po] 73 (0, 0)) := (hfr3.blk wr.heap.size (by simp) (Classical.byContradiction fun hn => by have := (HKP.out.srow k hlt).lt _ (only_ne.1 hn); omega)).trans HN1.out
        have hszw := hfr2.size
        rw [World.size_alloc] at hszw
        have HX2 := Lib.hid hx2
        have HSZ2 := Lib.hid hszw
        have r0 := cell_heap hx2 0
        have r1 := cell_heap hx2 1
        have r2 := cell_heap hx2 2
        have r3 := cell_heap hx2 3
        have hb3 := below1 w2 (.cells #[.int .i64 ms[k].o.k, .int .i64 (ms[k].o.c : Nat), .slice so ms[k].o.s.length sc, .pointer po] 73)
        have HKP3 := Lib.hid (HKP2.out.below hb3)
        have HNW := Lib.hid (World.news_of_block (heap_alloc_new w2 (.cells #[.int .i64 ms[k].o.k, .int .i64 (ms[k].o.c : Nat), .slice so ms[k].o.s.length sc, .pointer po] 73)))
        have hi1 := HI.out.1
        have hz1 := HI.out.2
        clear hrow2 hfr2 hfr3 hmv hx2 hszw hb3 HREN HN1 HKP1 p0 p1 p2 p3 hc hq
        go_wp2_with (at_builtin; go_loud (refine wpList_append_in rfl _ _ 66 rfl 0 73 i0 4 Try.underlying66 hi1 hz1 b ms.length cap (plc K k) (rowK K ms k) rfl HKP3.out.row (by omega) ⟨w2.heap.size, 0, none⟩ 1 [.int .i64 ms[k].o.k, .int .i64 (ms[k].o.c : Nat), .slice so ms[k].o.s.length sc, .pointer po] rfl rfl HNW.out (by intro u hu; simp at hu; rcases hu with rfl | rfl | rfl | rfl <;> rfl) ?_); go_loud (intro w4 hown4 hgrow4))
        have hbwr : b < wr.heap.size := Nat.lt_of_lt_of_le hbw HKP.out.kp.1
        have HKP4 := Lib.hid (KpI.app HGR.out HBR.out HSR.out HKP3.out hown4 hgrow4)
        have hx4 : w4.heap[wr.heap.size]? = some (.cells #[.int .i64 ms[k].o.k, .int .i64 (ms[k].o.c : Nat), .slice so ms[k].o.s.length sc, .pointer po] 73 (0, 0)) := by
          rw [hgrow4.block wr.heap.size (by have := HSZ2.out; simp; omega) (fun e => by injection e with e; omega), Below.heap_alloc _ _ _ (by have := HSZ2.out; omega)]
          exact HX2.out
        have r1 := cell_heap hx4 1
        have y1 := cell_heap HKP4.out.box 1
        have z1 := frozen_heap HKP4.out.box 1
        have hu := useK_le HM.out K (show k + 1 ≤ ms.length by omega)
        rw [useK_succ hlt, HKK.out, if_pos rfl] at hu
        have hwr : IntKind.i64.wrap (((useK K ms k : Nat) : Int) + ((ms[k].o.c : Nat) : Int)) = ((useK K ms k + ms[k].o.c : Nat) : Int) := by rw [IntKind.wrap_i64]; have := HU.out; omega
        clear hown4 hgrow4 hx4 hu r0 r2 r3
        go_wp2_with fail
        go_region
        go_wp2_with fail
        go_roundw
        case measure => simp only [intOf]; omega
        case rel =>
          refine ⟨k + 1, by omega, by go_num, by rw [plc_succ, HKK.out, if_pos rfl], ?_⟩
          rw [useK_succ hlt, rowK_succ_yes HKK.out hlt, slK_succ_yes HKK.out hlt, HKK.out, if_pos rfl]
          have e1 : omL ms[k] = [.int .i64 ms[k].o.k, .int .i64 (ms[k].o.c : Nat), .slice so ms[k].o.s.length sc, .pointer po] := by unfold omL; rw [HSV.out, HPV.out]
          rw [e1]
          exact (KpI.use HGR.out HBR.out HSR.out HKP4.out (useK K ms k + ms[k].o.c) (y := ((useK K ms k : Nat) : Int) + ((ms[k].o.c : Nat) : Int)) (by omega)).below (Below.refl _ _).drew
    · obtain rfl : k = ms.length := by omega
      have c0 := cell_heap hkp.box 2
      have f0 := frozen_heap hkp.box 2
      have hpl2 : ((plc K ms.length : Nat) : Int) ≤ ((ms.length : Nat) : Int) := by omega
      have hpl3 : ((plc K ms.length : Nat) : Int) ≤ ((cap : Nat) : Int) := by omega
      clear hkp
      go_wp2_with (refine wpList_clear_in rfl _ 66 rfl 0 73 _ 4 Try.underlying66 zeroObj rfl (by intro u hu; simp [Value.cells] at hu; rcases hu with rfl | rfl | rfl | rfl <;> rfl) b ms.length cap (plc K ms.length) _ (rowK K ms ms.length) _ rfl (by intro hlt; first | rfl | simp; omega) HKP.out.row hpl ?_; intro w4 hown4 hgrow4; have hx4 := (hgrow4.block g (Array.getElem?_eq_some_iff.1 HKP.out.box).1 (fun e => hgb (Option.some.inj e))).trans HKP.out.box; have y2 := cell_heap hx4 2; have z2 := frozen_heap hx4 2; have HFIN := Lib.hid (KpI.fin HM.out HK.out HKP.out hown4 hgrow4); clear hown4 hgrow4 hx4)
      all_goals
        go_end0
        first
          | exact ⟨rfl, HFIN.out.1, HFIN.out.2⟩
          | (have hcp : cap = plc K ms.length := by assumption
             have h1 := HFIN.out
             rw [hcp] at h1
             exact ⟨rfl, h1.1, h1.2⟩)

set_option maxRecDepth 100000 in
theorem stkeep_any (g : Nat) (R : Nat → Nat) (s : St) (K : Nat → Bool) (nb : Nat) (w : World) (h : StW w g R s) (hN : IRow w nb (nums K s.os.length)) (hRn : R nb = 0)
    (hK : ∀ (m n : Nat) (o : Ob), K m = true → s.os[m]? = some o → ((7 : Int), (n : Int)) ∈ o.s → K n = true) :
    Calls Try.prog 55 #[.pointer (some ⟨g, 0, none⟩), .slice (some ⟨nb, 0, none⟩) s.os.length s.os.length] w fun e w' => e = .returned (.tuple #[]) ∧ StW w' g (Rleft K R) (s.left K) ∧ Fr R w w' := by
  obtain ⟨ms, ov, nv, mv, hm⟩ := h
  rcases hm.orow.2 with ⟨rfl, h0⟩ | ⟨b, cap, cur, rfl, _⟩
  · obtain rfl := List.eq_nil_of_length_eq_zero h0
    exact stkeep_nil g R s nv mv K _ _ _ w hm
  · rw [hm.len] at hN ⊢
    exact stkeep_row g R s ms b cap nv mv K nb w hm hN hRn hK

/-- What Collect answers, and leaves. -/
def ColPost (g : Nat) (R : Nat → Nat) (s : St) (rs : List (Int × Int)) (w : World) (e : Ending) (w' : World) : Prop :=
  (rs.all (sdV s.os.length s.ns.length) = false ∧ e = .returned (.tuple #[.slice none 0 0, .int .i64 2]) ∧ Below w.heap.size w w') ∨
  (rs.all (sdV s.os.length s.ns.length) = true ∧ ∃ v' R', e = .returned (.tuple #[v', .int .i64 0]) ∧ StW w' g R' (s.col rs) ∧ Fr R w w' ∧ (∀ b, R' b = 0 ↔ R b = 0) ∧ w'.ownsRow w.heap.size 35 2 v' rs.length (vcs (rs.map (mvV (rchB s rs)))))

set_option maxRecDepth 100000 in
set_option maxHeartbeats 4000000 in
theorem stcollect_any (g : Nat) (R : Nat → Nat) (s : St) (lv : Value) (rs : List (Int × Int)) (w : World) (h : StW w g R s) (hr : RowV w lv rs.length 2 (vcs rs)) (hl : rs.length ≤ 2000000) (hrR : InP (fun b => R b = 0) rs.length lv) :
    Calls Try.prog 20 #[.pointer (some ⟨g, 0, none⟩), lv] w (ColPost g R s rs w) := by
  have HS := Lib.hid h
  have HR := Lib.hid hr
  have HRR := Lib.hid hrR
  have hos := h.ok.len
  obtain ⟨lo, lc, rfl⟩ := rowv_slice hr
  clear h hr hrR
  go_enter Try.func20, Try.ntmps20
  go_wp2_with fail
  refine (stall_any g R s (.slice lo rs.length lc) rs _ HS.out HR.out).mono ?_
  rintro e w1 ⟨rfl, hb1⟩
  have HB1 := Lib.hid hb1
  clear hb1
  cases hall : rs.all (sdV s.os.length s.ns.length) with
  | false =>
    have HA := Lib.hid hall
    clear hall
    go_wp2_with fail
    go_ret2
    exact .inl ⟨HA.out, rfl, HB1.out⟩
  | true =>
    have HA := Lib.hid hall
    clear hall
    go_wp2_with fail
    refine (stnumbers_any g R s (.slice lo rs.length lc) rs _ (HS.out.below HB1.out) (HR.out.below HB1.out) HA.out hl).mono ?_
    rintro e w2 ⟨nb, rfl, hN, hnb, hb2⟩
    have HB2 := Lib.hid (HB1.out.trans (hb2.mono HB1.out.size))
    have HN := Lib.hid hN
    have hnb2 : w.heap.size ≤ nb := Nat.le_trans HB1.out.size hnb
    have hRn : R nb = 0 := Classical.byContradiction fun hn => by have := HS.out.lt nb hn; omega
    clear hN hb2
    go_wp2_with fail
    refine (stkeep_any g R s (rchB s rs) nb _ (HS.out.below HB2.out) HN.out hRn rch_closed).mono ?_
    rintro e w3 ⟨rfl, hst, hfr⟩
    have HST := Lib.hid hst
    have HFR3 := Lib.hid ((Fr.of_below (R := R) HB2.out).tr hfr)
    have HN3 := Lib.hid (HN.out.keep hfr.keeps hRn)
    have HR3 := Lib.hid ((HR.out.below HB2.out).move HRR.out hfr.keeps)
    have hnb3 := HN3.out.lt
    have hs3 := HFR3.out.size
    clear hst hfr
    go_wp2_with fail
    refine (stown_any (.slice lo rs.length lc) rs _ HR3.out hl).mono ?_
    rintro e w4 ⟨v', rfl, ho4, hb4⟩
    have HB4 := Lib.hid hb4
    have HO4 := Lib.hid ho4
    have HREN := strenumber_any v' rs nb (nums (rchB s rs) s.os.length) s.os.length w4 (ownsRow_base ho4 (Nat.zero_le _)) (HN3.out.below hb4) (fun e => by have := (ho4.lt nb e).1; omega) (fun v hv h7 => by
      obtain ⟨n, rfl, hn⟩ := sd_in (List.all_eq_true.1 HA.out v hv) h7
      exact ⟨n, rfl, by rw [nums_len]; exact hn⟩) (by rw [nums_len]; omega)
    rw [nums_len] at HREN
    have HREN := Lib.hid HREN
    obtain ⟨vo, vc, rfl⟩ := own_dslice ho4
    clear ho4 hb4
    go_wp2_with fail
    refine HREN.out.mono ?_
    rintro e w5 ⟨rfl, ho5, hf5⟩
    have hmv : rs.map (rn (nums (rchB s rs) s.os.length)) = rs.map (mvV (rchB s rs)) := List.map_congr_left fun v hv => rn_mv (nn := s.ns.length) (List.all_eq_true.1 HA.out v hv) fun m hm => rchB_iff.2 (.root (hm ▸ hv))
    rw [hmv] at ho5
    have HO5 := Lib.hid ho5
    have HF5 := Lib.hid hf5
    clear ho5 hf5 hmv HREN
    go_wp2_with fail
    go_ret2
    have hvb : ∀ b, (Value.slice vo rs.length vc).ownBlock = some b → w3.heap.size ≤ b := fun b hb => (HO4.out.lt b hb).1
    refine .inr ⟨HA.out, _, _, rfl, (HST.out.below HB4.out).keep (HF5.out.keeps.mono fun b _ hn => Classical.byContradiction fun h1 => absurd (HST.out.lt b hn) (by have := hvb b (only_ne.1 h1); omega)), (HFR3.out.belowThen HB4.out).trans HF5.out (fun b hb h0 => Classical.byContradiction fun h1 => ?_), fun b => Rleft_zero, ?_⟩
    · have h2 := hvb b (only_ne.1 h1)
      have h3 := HFR3.out.size
      omega
    · refine ⟨HO5.out.1, ?_⟩
      rcases HO5.out.2 with h1 | ⟨g2, cap2, cur2, h1, h2, h3⟩
      · exact .inl h1
      · exact .inr ⟨g2, cap2, cur2, h1, by have := hvb g2 (by rw [h1]; rfl); omega, h3⟩
end Go.Proofs.Ytioidaojnbenbaa
