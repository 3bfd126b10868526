/- A store's names, walked: intern, Symbol, Name. -/
import Derived.Test.YtioidaojnbenbaaStNmM
import Derived.Test.YtioidaojnbenbaaStSet
import Derived.Test.YtioidaojnbenbaaShelfN
import Derived.StillTailTactics
import Derived.Deep.Cut
namespace Go.Proofs.Ytioidaojnbenbaa
open Go.RowKit

set_option maxRecDepth 100000 in
theorem sclone_any (s : ByteArray) (w : World) (hs : s.size ≤ 100000000) :
    Calls Try.prog 52 #[.string s] w fun e w' => e = .returned (.string s) ∧ Below w.heap.size w w' := by
  go_enter Try.func52, Try.ntmps52
  go_wp2_with fail
  refine (Try.stringslite_Clone s _ (by omega)).mono ?_
  rintro e w' ⟨rfl, hb⟩
  go_wp2_with fail
  go_ret
  exact ⟨rfl, hb⟩


theorem eqMapN (w : World) : (binOp .eql 67 (.map none) (.map none)).run Try.prog w = .ok (.bool true) w := by kernel_rfl
theorem eqMapS (b : Nat) (w : World) : (binOp .eql 67 (.map (some b)) (.map none)).run Try.prog w = .ok (.bool false) w := by kernel_rfl
theorem str_some {t : ByteArray} (h : t.size ≠ 0) : t.toList.isEmpty = false := by
  rw [ByteArray.toList_eq]
  cases hl : t.data.toList with
  | nil => exact absurd (show t.size = 0 by have : t.data.toList.length = 0 := by rw [hl]; rfl
                                            exact this) h
  | cons _ _ => rfl
theorem MapOk.some {R : Nat → Nat} {w : World} {b : Nat} {ns : List ByteArray} (h : MapOk R w (.map (some b)) ns) : R b = 4 ∧ MapS w b ns := by
  rcases h with ⟨h, _⟩ | ⟨b', h, h2, h3⟩
  · cases h
  · injection h with h; injection h with h; subst h; exact ⟨h2, h3⟩

set_option maxRecDepth 100000 in
set_option maxHeartbeats 2000000 in
theorem stintern_q (g : Nat) (R : Nat → Nat) (s : St) (t : ByteArray) (w : World) (Q : Ending → World → Prop) (h : StW w g R s) (ht : t ∉ s.ns) (hn : s.ns.length < 1000000)
    (hQ : ∀ w', StP w g R (s.intern t) w' → Q (.returned (.int .i64 (s.ns.length : Nat))) w') :
    Calls Try.prog 51 #[.pointer (some ⟨g, 0, none⟩), .string t] w Q := by
  obtain ⟨i0, hi, hz0, hz1, hz2⟩ := info_parts infoStr
  obtain ⟨ms, ov, nv, mv, hm⟩ := h
  have HM := Lib.hid hm
  have hgl := hm.glt
  obtain ⟨no, nc, hnv⟩ := own_dslice hm.nrow
  subst hnv
  obtain ⟨_, _, _, c3, c4, _, _, f3, f4⟩ := hm.boxf
  have hmm := @run_makeMap Try.prog
  have hen := eqMapN
  have hes := eqMapS
  have HT := Lib.hid ht
  have HQ := Lib.hid hQ
  have hmap := hm.map
  clear hm ht hQ
  rcases hmap with ⟨rfl, hns⟩ | ⟨mb, rfl, hmb, hmap⟩
  · clear hns
    go_enter Try.func51, Try.ntmps51
    go_upto_region 3 with fail
    obtain ⟨R1, hM1, hF1, hR1, _⟩ := HM.out.mkMap
    clear c3 c4 f3 f4 hgl
    generalize (w.setCell ⟨g, 4, none⟩ (.map (some w.heap.size))).alloc (.map #[] 0) = w1 at *
    have HF1 := Lib.hid hF1
    have HR1 := Lib.hid hR1
    clear hF1 hR1
    generalize w.heap.size = mb at hM1 ⊢
    have HM1 := Lib.hid hM1
    clear hM1
    have hgl := HM1.out.glt
    have hgR := HM1.out.gR
    obtain ⟨_, _, _, c3, c4, _, _, f3, f4⟩ := HM1.out.boxf
    go_upto_region 4 with fail
    have hb2 := below1 w1 (.cells #[.string t] 9)
    have HM2 := Lib.hid (HM1.out.below hb2)
    have HNW := Lib.hid (srow1 w1 t)
    have HN3 := Lib.hid HM2.out.nrow
    go_upto_region 5 with (at_builtin; go_loud (refine wpList_append_row _ rfl _ _ 30 rfl 0 9 i0 _ 1 16 Try.underlying30 hi hz0 hz1 hz2 rfl (by decide) (.slice no s.ns.length nc) s.ns.length (s.ns.map Value.string) rfl HN3.out _ 1 [.string t] rfl HNW.out (by intro u hu; simp at hu; subst hu; rfl) (by unfold maxLen; omega) (by omega) (Nat.zero_le _) ?_); go_loud (intro v' w2 hown2 hgrow2 hmv2; obtain ⟨no2, nc2, hv2⟩ := own_dslice hown2; subst hv2; have hbx2 := (hgrow2.block g (by simp; omega) (fun e => by have := HM1.out.nR g e.symm; omega)).trans HM2.out.box; obtain ⟨y3, y4, z3⟩ : w2.cell? ⟨g, 3, none⟩ = some (.slice no s.ns.length nc) ∧ w2.cell? ⟨g, 4, none⟩ = some (.map (some mb)) ∧ w2.frozen? ⟨g, 3, none⟩ = false := ⟨cell_heap hbx2 3, cell_heap hbx2 4, frozen_heap hbx2 3⟩))
    have hmb := HM1.out.map.some.1
    have hbx3 : (w2.setCell ⟨g, 3, none⟩ (.slice no2 (s.ns.length + 1) nc2)).heap[g]? = some (.cells #[.int .i64 (s.L : Nat), .int .i64 (s.U : Nat), ov, .slice no2 (s.ns.length + 1) nc2, .map (some mb)] 69 (0, 0)) := rowSet hbx2 3 _
    have HF3 := Lib.hid (((Fr.of_below (R := R1) hb2).grown hgrow2 (fun k hk => .inr (by rw [HM1.out.nR k hk]; omega))).set (p := ⟨g, 3, none⟩) (.inr (by show R1 g ≠ 0; omega)) (.slice no2 (s.ns.length + 1) nc2))
    have hms3 := (HM1.out.map.move (((Keeps.of_below hb2).trans (Keeps.of_grown hgrow2 (fun q hq h4 => by have := HM1.out.nR q hq; omega))).set (p := ⟨g, 3, none⟩) (fun h4 => by have h5 : R1 g = 4 := h4; omega) (.slice no2 (s.ns.length + 1) nc2))).some.2
    have HK3 := Lib.hid ((Keeps.refl (fun x => x ≠ g ∧ x ≠ mb) w2).set (p := ⟨g, 3, none⟩) (fun h => h.1 rfl) (.slice no2 (s.ns.length + 1) nc2))
    have HOW2 := Lib.hid hown2
    have HG2 := Lib.hid hgrow2
    have HMV2 := Lib.hid hmv2
    clear hown2 hgrow2 hmv2 hbx2 y3 y4 z3 c3 c4 f3 f4 hb2
    generalize w2.setCell ⟨g, 3, none⟩ (.slice no2 (s.ns.length + 1) nc2) = w3 at *
    have y4 : w3.cell? ⟨g, 4, none⟩ = some (.map (some mb)) := cell_heap hbx3 4
    obtain ⟨w4, hrun, hms4, hfr4⟩ := hms3.put HT.out
    have HRUN := Lib.hid hrun
    have HMS4 := Lib.hid hms4
    have HFR4 := Lib.hid (hfr4 R1 (by omega))
    have HBX3 := Lib.hid hbx3
    clear hrun hms4 hfr4 hms3 hbx3
    go_wp2_with (at_mapUpdate; go_loud (refine wpList_mapUpdate_run _ rfl _ _ _ 67 rfl (.map (some mb)) (.string t) (.int .i64 (s.ns.length : Nat)) rfl rfl rfl w4 HRUN.out ?_))
    show Q (.returned (.int .i64 (s.ns.length : Nat))) w4
    have hgm : g ≠ mb := fun e => by rw [e] at hgR; omega
    have hgl3 := (Array.getElem?_eq_some_iff.1 HBX3.out).1
    obtain ⟨R', hst, hq1, hq2⟩ := StM.name HM2.out HT.out hn HOW2.out HG2.out HMV2.out ((HFR4.out.2.2 g hgl3 hgm).trans HBX3.out) HMS4.out (HK3.out.trans (HFR4.out.2.mono fun _ _ h => h.2))
    refine HQ.out _ ⟨R', ⟨_, _, _, _, hst⟩, HF1.out.trans (HF3.out.tr HFR4.out.1) (fun b hb h0 => (HR1.out b hb).2 h0), fun b hb => ⟨fun h0 => ?_, fun h0 => ?_⟩⟩
    · refine Classical.byContradiction fun hn0 => ?_
      have h1 : R1 b ≠ 0 := fun h => hn0 ((HR1.out b hb).1 h)
      rw [hq1 b h1] at h0
      exact h1 h0
    · refine Classical.byContradiction fun hn0 => ?_
      rcases hq2 b hn0 with h | h
      · exact h ((HR1.out b hb).2 h0)
      · have := HF1.out.size
        simp at h
        omega
  · clear hmb hmap
    obtain ⟨w1, hw1⟩ : ∃ w1, w1 = w := ⟨_, rfl⟩
    obtain ⟨R1, hR⟩ : ∃ R1, R1 = R := ⟨_, rfl⟩
    have HM1 : Hid (StM w1 g R1 s ms ov (.slice no s.ns.length nc) (.map (some mb))) := Lib.hid (by rw [hw1, hR]; exact HM.out)
    have HF1 : Hid (Fr R w w1) := Lib.hid (by rw [hw1]; exact Fr.refl R w)
    have HR1 : Hid (∀ b, b < w.heap.size → (R1 b = 0 ↔ R b = 0)) := Lib.hid fun _ _ => by rw [hR]
    clear hR
    go_enter Try.func51, Try.ntmps51
    go_upto_region 3 with fail
    clear c3 c4 f3 f4 hgl
    rw [← hw1]
    clear hw1
    have hgl := HM1.out.glt
    have hgR := HM1.out.gR
    obtain ⟨_, _, _, c3, c4, _, _, f3, f4⟩ := HM1.out.boxf
    go_upto_region 4 with fail
    have hb2 := below1 w1 (.cells #[.string t] 9)
    have HM2 := Lib.hid (HM1.out.below hb2)
    have HNW := Lib.hid (srow1 w1 t)
    have HN3 := Lib.hid HM2.out.nrow
    go_upto_region 5 with (at_builtin; go_loud (refine wpList_append_row _ rfl _ _ 30 rfl 0 9 i0 _ 1 16 Try.underlying30 hi hz0 hz1 hz2 rfl (by decide) (.slice no s.ns.length nc) s.ns.length (s.ns.map Value.string) rfl HN3.out _ 1 [.string t] rfl HNW.out (by intro u hu; simp at hu; subst hu; rfl) (by unfold maxLen; omega) (by omega) (Nat.zero_le _) ?_); go_loud (intro v' w2 hown2 hgrow2 hmv2; obtain ⟨no2, nc2, hv2⟩ := own_dslice hown2; subst hv2; have hbx2 := (hgrow2.block g (by simp; omega) (fun e => by have := HM1.out.nR g e.symm; omega)).trans HM2.out.box; obtain ⟨y3, y4, z3⟩ : w2.cell? ⟨g, 3, none⟩ = some (.slice no s.ns.length nc) ∧ w2.cell? ⟨g, 4, none⟩ = some (.map (some mb)) ∧ w2.frozen? ⟨g, 3, none⟩ = false := ⟨cell_heap hbx2 3, cell_heap hbx2 4, frozen_heap hbx2 3⟩))
    have hmb := HM1.out.map.some.1
    have hbx3 : (w2.setCell ⟨g, 3, none⟩ (.slice no2 (s.ns.length + 1) nc2)).heap[g]? = some (.cells #[.int .i64 (s.L : Nat), .int .i64 (s.U : Nat), ov, .slice no2 (s.ns.length + 1) nc2, .map (some mb)] 69 (0, 0)) := rowSet hbx2 3 _
    have HF3 := Lib.hid (((Fr.of_below (R := R1) hb2).grown hgrow2 (fun k hk => .inr (by rw [HM1.out.nR k hk]; omega))).set (p := ⟨g, 3, none⟩) (.inr (by show R1 g ≠ 0; omega)) (.slice no2 (s.ns.length + 1) nc2))
    have hms3 := (HM1.out.map.move (((Keeps.of_below hb2).trans (Keeps.of_grown hgrow2 (fun q hq h4 => by have := HM1.out.nR q hq; omega))).set (p := ⟨g, 3, none⟩) (fun h4 => by have h5 : R1 g = 4 := h4; omega) (.slice no2 (s.ns.length + 1) nc2))).some.2
    have HK3 := Lib.hid ((Keeps.refl (fun x => x ≠ g ∧ x ≠ mb) w2).set (p := ⟨g, 3, none⟩) (fun h => h.1 rfl) (.slice no2 (s.ns.length + 1) nc2))
    have HOW2 := Lib.hid hown2
    have HG2 := Lib.hid hgrow2
    have HMV2 := Lib.hid hmv2
    clear hown2 hgrow2 hmv2 hbx2 y3 y4 z3 c3 c4 f3 f4 hb2
    generalize w2.setCell ⟨g, 3, none⟩ (.slice no2 (s.ns.length + 1) nc2) = w3 at *
    have y4 : w3.cell? ⟨g, 4, none⟩ = some (.map (some mb)) := cell_heap hbx3 4
    obtain ⟨w4, hrun, hms4, hfr4⟩ := hms3.put HT.out
    have HRUN := Lib.hid hrun
    have HMS4 := Lib.hid hms4
    have HFR4 := Lib.hid (hfr4 R1 (by omega))
    have HBX3 := Lib.hid hbx3
    clear hrun hms4 hfr4 hms3 hbx3
    go_wp2_with (at_mapUpdate; go_loud (refine wpList_mapUpdate_run _ rfl _ _ _ 67 rfl (.map (some mb)) (.string t) (.int .i64 (s.ns.length : Nat)) rfl rfl rfl w4 HRUN.out ?_))
    show Q (.returned (.int .i64 (s.ns.length : Nat))) w4
    have hgm : g ≠ mb := fun e => by rw [e] at hgR; omega
    have hgl3 := (Array.getElem?_eq_some_iff.1 HBX3.out).1
    obtain ⟨R', hst, hq1, hq2⟩ := StM.name HM2.out HT.out hn HOW2.out HG2.out HMV2.out ((HFR4.out.2.2 g hgl3 hgm).trans HBX3.out) HMS4.out (HK3.out.trans (HFR4.out.2.mono fun _ _ h => h.2))
    refine HQ.out _ ⟨R', ⟨_, _, _, _, hst⟩, HF1.out.trans (HF3.out.tr HFR4.out.1) (fun b hb h0 => (HR1.out b hb).2 h0), fun b hb => ⟨fun h0 => ?_, fun h0 => ?_⟩⟩
    · refine Classical.byContradiction fun hn0 => ?_
      have h1 : R1 b ≠ 0 := fun h => hn0 ((HR1.out b hb).1 h)
      rw [hq1 b h1] at h0
      exact h1 h0
    · refine Classical.byContradiction fun hn0 => ?_
      rcases hq2 b hn0 with h | h
      · exact h ((HR1.out b hb).2 h0)
      · have := HF1.out.size
        simp at h
        omega
theorem stintern_any (g : Nat) (R : Nat → Nat) (s : St) (t : ByteArray) (w : World) (h : StW w g R s) (ht : t ∉ s.ns) (hn : s.ns.length < 1000000) :
    Calls Try.prog 51 #[.pointer (some ⟨g, 0, none⟩), .string t] w fun e w' => e = .returned (.int .i64 (s.ns.length : Nat)) ∧ StP w g R (s.intern t) w' :=
  stintern_q g R s t w _ h ht hn fun _ h => ⟨rfl, h⟩

theorem StM.look {w : World} {g : Nat} {R : Nat → Nat} {s : St} {ms : List OM} {ov nv mv : Value} (h : StM w g R s ms ov nv mv) (t : ByteArray) : ∃ mo, mv = .map mo ∧
    ((t ∉ s.ns ∧ (Instr.lookup 67 (.map mo) (.string t) true).run Try.prog w = .ok (.tuple #[.int .i64 0, .bool false]) w) ∨
    ∃ j, ∃ hj : j < s.ns.length, s.ns[j]'hj = t ∧ (Instr.lookup 67 (.map mo) (.string t) true).run Try.prog w = .ok (.tuple #[.int .i64 (j : Nat), .bool true]) w) := by
  rcases h.map with ⟨rfl, hn⟩ | ⟨b, rfl, _, hm⟩
  · exact ⟨none, rfl, .inl ⟨by rw [hn]; simp, look_nil t w⟩⟩
  · exact ⟨some b, rfl, hm.look t⟩
theorem size_zero {t : ByteArray} (h : t.size = 0) : t = ⟨#[]⟩ := by
  obtain ⟨a⟩ := t
  have : a.size = 0 := h
  rw [Array.size_eq_zero_iff.1 this]

set_option maxRecDepth 100000 in
set_option maxHeartbeats 2000000 in
theorem stsymbol_q (g : Nat) (R : Nat → Nat) (s : St) (t : ByteArray) (w : World) (Q : Ending → World → Prop) (h : StW w g R s) (hn : s.ns.length < 1000000)
    (hQ : ∀ r s' w', SymR s t r s' → StP w g R s' w' → Q (.returned (.tuple #[.agg #[.int .i64 r.1.1, .int .i64 r.1.2], .int .i64 r.2])) w') :
    Calls Try.prog 16 #[.pointer (some ⟨g, 0, none⟩), .string t] w Q := by
  have HS := Lib.hid h
  have HQ := Lib.hid hQ
  clear hQ
  have HB1 := Lib.hid (below1 w (.cells #[.int .i64 0, .int .i64 0] 35))
  have HN1 := Lib.hid (box1 w #[.int .i64 0, .int .i64 0] 35)
  by_cases h0 : t.size = 0
  · have ht := size_zero h0
    subst ht
    have HR : Hid (SymR s ⟨#[]⟩ ((0, 0), 1) s) := Lib.hid (.inl ⟨.inl h0, rfl, rfl⟩)
    clear h h0
    obtain ⟨p0, p1, z0, z1⟩ := row2 HN1.out
    go_enter Try.func16, Try.ntmps16
    go_wp2_with fail
    refine bodyPost_ret (v := .tuple #[vV (0, 0), .int .i64 1]) (by simp [results, Try.results16, go_sem, vV, p0, p1]) rfl (HQ.out _ _ _ HR.out (StP.of_below HS.out HB1.out))
  · have hne := str_some h0
    by_cases h1 : 64 < t.size
    · have HR : Hid (SymR s t ((0, 0), 1) s) := Lib.hid (.inl ⟨.inr h1, rfl, rfl⟩)
      have h2 : (64 : Int) < (t.size : Int) := by omega
      clear h h0 h1
      obtain ⟨p0, p1, z0, z1⟩ := row2 HN1.out
      go_enter Try.func16, Try.ntmps16
      go_wp2_with fail
      refine bodyPost_ret (v := .tuple #[vV (0, 0), .int .i64 1]) (by simp [results, Try.results16, go_sem, vV, p0, p1]) rfl (HQ.out _ _ _ HR.out (StP.of_below HS.out HB1.out))
    · have hgood : 1 ≤ t.size ∧ t.size ≤ 64 := ⟨by omega, by omega⟩
      have h2 : ¬ (64 : Int) < (t.size : Int) := by omega
      obtain ⟨ms, ov, nv, mv, hm⟩ := h
      have hgl := hm.glt
      have c4 := hm.boxf.2.2.2.2.1
      obtain ⟨mo, rfl, hlk⟩ := (hm.below HB1.out).look t
      clear hm h0 h1
      have HG := Lib.hid hgood
      clear hgood
      rcases hlk with ⟨hni, hrun⟩ | ⟨j, hj, hjt, hrun⟩
      · have HNI := Lib.hid hni
        clear hni
        go_enter Try.func16, Try.ntmps16
        go_wp2_with fail
        refine (sclone_any t _ (by have := HG.out.2; omega)).mono ?_
        rintro e w1 ⟨rfl, hb1⟩
        have HB2 := Lib.hid (HB1.out.trans (hb1.mono (by simp)))
        have HX1 := Lib.hid ((hb1.block w.heap.size (by simp)).trans HN1.out)
        clear hb1 hrun c4 h2 hne
        go_wp2_with fail
        refine (stintern_any g R s t _ (HS.out.below HB2.out) HNI.out hn).mono ?_
        rintro e w2 ⟨rfl, R', hst, hfr, hr⟩
        have hR0 : R w.heap.size = 0 := Classical.byContradiction fun hn0 => by have := HS.out.lt _ hn0; omega
        have hxl := (Array.getElem?_eq_some_iff.1 HX1.out).1
        have hX2 := (hfr.blk w.heap.size hxl hR0).trans HX1.out
        have HST := Lib.hid hst
        have HFR := Lib.hid ((Fr.of_below (R := R) HB2.out).tr hfr)
        have HR0' : Hid (R' w.heap.size = 0) := Lib.hid ((hr _ hxl).2 hR0)
        have HRR : Hid (∀ b, b < w.heap.size → (R' b = 0 ↔ R b = 0)) := Lib.hid fun b hb => hr b (Nat.lt_of_lt_of_le hb HB2.out.size)
        have hxl2 := (Array.getElem?_eq_some_iff.1 hX2).1
        obtain ⟨p0, p1, z0, z1⟩ := row2 hX2
        clear hst hfr hr hX2
        go_wp2_with fail
        refine bodyPost_ret (v := .tuple #[vV (6, ((s.ns.length : Nat) : Int)), .int .i64 0]) (by simp [results, Try.results16, go_sem, vV, p0, p1]) rfl (HQ.out ((6, ((s.ns.length : Nat) : Int)), 0) (s.intern t) _ (.inr ⟨HG.out, s.ns.length, by simp [St.intern], rfl, by simp [St.intern], .inr rfl⟩) ⟨R', ?_, ?_, HRR.out⟩)
        · exact HST.out.keep (((Keeps.refl (fun b => R' b ≠ 0) _).set (p := ⟨w.heap.size, 0, none⟩) (fun h => h HR0'.out) _).set (p := ⟨w.heap.size, 1, none⟩) (fun h => h HR0'.out) _)
        · exact (HFR.out.set (p := ⟨w.heap.size, 0, none⟩) (.inl (Nat.le_refl _)) _).set (p := ⟨w.heap.size, 1, none⟩) (.inl (Nat.le_refl _)) _
      · have HJ : Hid (SymR s t ((6, ((j : Nat) : Int)), 0) s) := Lib.hid (.inr ⟨HG.out, j, hj, rfl, hjt, .inl rfl⟩)
        clear hjt
        obtain ⟨p0, p1, z0, z1⟩ := row2 HN1.out
        go_enter Try.func16, Try.ntmps16
        go_wp2_with fail
        refine bodyPost_ret (v := .tuple #[vV (6, ((j : Nat) : Int)), .int .i64 0]) (by simp [results, Try.results16, go_sem, vV]) rfl (HQ.out _ _ _ HJ.out (StP.of_below HS.out (below1 w _)))

theorem stsymbol_any (g : Nat) (R : Nat → Nat) (s : St) (t : ByteArray) (w : World) (h : StW w g R s) (hn : s.ns.length < 1000000) :
    Calls Try.prog 16 #[.pointer (some ⟨g, 0, none⟩), .string t] w fun e w' => ∃ r s', e = .returned (.tuple #[.agg #[.int .i64 r.1.1, .int .i64 r.1.2], .int .i64 r.2]) ∧ SymR s t r s' ∧ StP w g R s' w' :=
  stsymbol_q g R s t w _ h hn fun r s' _ h1 h2 => ⟨r, s', rfl, h1, h2⟩

set_option maxRecDepth 100000 in
set_option maxHeartbeats 2000000 in
theorem stname_ok (g : Nat) (R : Nat → Nat) (s : St) (j : Nat) (w : World) (h : StW w g R s) (hj : j < s.ns.length) (hz : (s.ns[j]'hj).size ≤ 1000) :
    Calls Try.prog 18 #[.pointer (some ⟨g, 0, none⟩), .agg #[.int .i64 6, .int .i64 (j : Nat)]] w fun e w' => e = .returned (.tuple #[.string (s.ns[j]'hj), .int .i64 0]) ∧ Below w.heap.size w w' := by
  have HS := Lib.hid h
  have hs : sdV s.os.length s.ns.length (6, ((j : Nat) : Int)) = true := by rw [sdV_sym rfl]; simp; omega
  have HB1 := Lib.hid (below1 w (.cells #[.int .i64 6, .int .i64 (j : Nat)] 35))
  have hX1 := box1 w #[.int .i64 6, .int .i64 (j : Nat)] 35
  have HX1 := Lib.hid hX1
  obtain ⟨p0, p1, z0, z1⟩ := row2 hX1
  clear h hX1
  go_enter Try.func18, Try.ntmps18
  go_wp2_with fail
  refine (stsound_any g R s (6, ((j : Nat) : Int)) _ (HS.out.below HB1.out)).mono ?_
  rintro e w1 ⟨rfl, hb1⟩
  rw [hs]
  have HB2 := Lib.hid (HB1.out.trans (hb1.mono (by simp)))
  have hX2 := (hb1.block w.heap.size (by simp)).trans HX1.out
  obtain ⟨ms, ov, nv, mv, hm⟩ := HS.out.below HB2.out
  have c3 := hm.boxf.2.2.2.1
  have hgl := hm.glt
  have ho := hm.nrow
  obtain ⟨nb, nc, hnv, hnl, hnb, d0⟩ : ∃ nb nc, nv = .slice (some ⟨nb, 0, none⟩) s.ns.length nc ∧ s.ns.length ≤ nc ∧ nb < w1.heap.size ∧ w1.cell? ⟨nb, j, none⟩ = some (.string (s.ns[j]'hj)) := by
    rcases ho.2 with ⟨_, h0⟩ | ⟨b, cap, cur, e, _, hc, hn, _, _, ht⟩
    · omega
    · have hcell := ho.cells (g := b) (by rw [e]; rfl) j (.string (s.ns[j]'hj)) (by simp [hj])
      exact ⟨b, cap, e, hn, (Array.getElem?_eq_some_iff.1 hc).1, by rwa [Addr.add_mid, Nat.zero_add] at hcell⟩
  subst hnv
  clear hm ho hb1 p0 p1 z0 z1
  obtain ⟨p0, p1, z0, z1⟩ := row2 hX2
  have hii : ((j : Nat) : Int) < ((s.ns.length : Nat) : Int) := by omega
  generalize htt : s.ns[j]'hj = t at *
  clear hX2 hs
  go_wp2_with fail
  go_region_with (go_at_call 52; refine (sclone_any t _ (by omega)).mono ?_; rintro e w2 ⟨rfl, hb2⟩)
  all_goals
    go_wp2_with fail
    refine bodyPost_ret (v := .tuple #[.string t, .int .i64 0]) (by simp [results, Try.results18, go_sem]) rfl ⟨by rw [htt], HB2.out.drew.trans (hb2.mono HB2.out.size)⟩
end Go.Proofs.Ytioidaojnbenbaa
