/- A store, written: own, put, Make. -/
import Derived.Test.YtocladhggcaokaaGreatDoorStGet
import Derived.Deep.AppendLies
import Derived.Deep.RegionHeld3
import Derived.Deep.RegionLaw
import Derived.Deep.RegionHeldLaw
namespace Go.Proofs.YtocladhggcaokaaGreatDoor
open Go.RowKit

theorem infoVal : (Tryz.prog.info? 29).map (fun i => (i.zero, i.size, i.bytes)) = some (some (.agg #[.int .i64 0, .int .i64 0]), 2, 16) := by kernel_rfl
theorem infoObj : (Tryz.prog.info? 159).map (fun i => (i.zero, i.size, i.bytes)) = some (some (.agg #[.int .i64 0, .int .i64 0, .slice none 0 0, .pointer none]), 4, 48) := by kernel_rfl
theorem ownsRow_base {w : World} {base base' : Nat} {e : TypeId} {size n : Nat} {v : Value} {xs : List Value} (h : w.ownsRow base e size v n xs) (hb : base' ≤ base) : w.ownsRow base' e size v n xs := by
  refine ⟨h.1, ?_⟩
  rcases h.2 with hn | ⟨g, cap, cur, h1, h2, h3⟩
  · exact .inl hn
  · exact .inr ⟨g, cap, cur, h1, by omega, h3⟩
theorem news3 {w : World} {a b c : Obj} : ((((w.alloc a).alloc b).alloc c).heap[w.heap.size]? = some a ∧ (((w.alloc a).alloc b).alloc c).heap[w.heap.size + 1]? = some b) ∧ (((w.alloc a).alloc b).alloc c).heap[w.heap.size + 1 + 1]? = some c := by
  refine ⟨⟨?_, ?_⟩, ?_⟩
  · rw [Below.heap_alloc _ _ _ (by simp; omega), Below.heap_alloc _ _ _ (by simp)]; exact heap_alloc_new w _
  · rw [Below.heap_alloc _ _ _ (by simp)]
    have := heap_alloc_new (w.alloc a) b
    simpa using this
  · have := heap_alloc_new ((w.alloc a).alloc b) c
    simpa using this

set_option maxRecDepth 100000 in
set_option maxHeartbeats 2000000 in
theorem stown_any (lv : Value) (l : List (Int × Int)) (w : World) (hr : RowV w lv l.length 2 (vcs l)) (hl : l.length ≤ 2000000) :
    Calls Tryz.prog 137 #[lv] w fun e w' => ∃ v', e = .returned v' ∧ w'.ownsRow w.heap.size 29 2 v' l.length (vcs l) ∧ Below w.heap.size w w' := by
  obtain ⟨i0, hi, hz0, hz1, hz2⟩ := info_parts infoVal
  have HR := Lib.hid hr
  obtain ⟨ao, cap, rfl⟩ : ∃ a c, lv = .slice a l.length c := by obtain ⟨_, _, a, c, e, _⟩ := hr; exact ⟨a, c, e⟩
  clear hr
  go_enter Tryz.func137, Tryz.ntmps137
  go_wp2_with (at_builtin; go_loud (refine wpList_append_row _ rfl _ _ 117 rfl w.heap.size 29 i0 _ 2 16 Tryz.underlying117 hi hz0 hz1 hz2 rfl (by decide) (.slice none 0 0) 0 [] rfl (World.ownsRow_nil _ _ _ _) _ l.length (vcs l) rfl HR.out (vcs_one l) (by unfold maxLen; omega) (by omega) (by simp) ?_); go_loud (intro v' w1 hown1 hgrow hmv; rw [Nat.zero_add, List.nil_append] at hown1; have HO := Lib.hid hown1; have HG := Lib.hid hgrow; clear hown1 hgrow hmv))
  go_ret
  exact ⟨_, rfl, HO.out, (Below.refl _ _).grown HG.out (Nat.le_refl _) (fun q hq => by cases hq)⟩

set_option maxRecDepth 100000 in
set_option maxHeartbeats 4000000 in
theorem stput_any (g : Nat) (R : Nat → Nat) (s : St) (ms : List OM) (ov nv mv : Value) (m : OM) (P : Nat → Prop) (w : World) (h : StM w g R s ms ov nv mv) (hs : w.ownsRow 0 29 2 m.sv m.o.s.length (vcs m.o.s)) (hsR : ∀ b, m.sv.ownBlock = some b → R b = 0 ∧ ¬ P b) (hp : PxAt P w m.pv m.o.x) (hpR : ∀ b, P b → R b = 0 ∧ b < w.heap.size)
    (hc : m.o.s.length + 1 ≤ m.o.c) (hr : s.U + m.o.c ≤ s.L) (hsn : m.o.s.all (sdV s.os.length s.ns.length) = true) :
    Calls Tryz.prog 136 #[.pointer (some ⟨g, 0, none⟩), .agg (omL m).toArray] w fun e w' => e = .returned (vV (7, ((s.os.length : Nat) : Int))) ∧
      ∃ R', StW w' g R' (s.add m.o) ∧ Fr R w w' ∧ (∀ b, R b ≠ 0 → R' b = R b) ∧ ∀ b, R' b ≠ 0 → R b ≠ 0 ∨ m.sv.ownBlock = some b ∨ P b ∨ w.heap.size ≤ b := by
  obtain ⟨i0, hi, hz0, hz1, hz2⟩ := info_parts infoObj
  obtain ⟨so, sc, hsv⟩ := own_dslice hs
  obtain ⟨po, hpv⟩ : ∃ po, m.pv = .pointer po := by
    cases hx : m.o.x with
    | none => rw [hx] at hp; exact ⟨_, hp⟩
    | some p => rw [hx] at hp; obtain ⟨b, _, _, _, _, e, _⟩ := hp; exact ⟨_, e⟩
  obtain ⟨vo, vc, hov⟩ := own_dslice h.orow
  have hcs : omL m = [.int .i64 m.o.k, .int .i64 (m.o.c : Nat), .slice so m.o.s.length sc, .pointer po] := by unfold omL; rw [hsv, hpv]
  have hol := h.len
  have hgl := h.glt
  have hUL := h.ok.UL
  have hLM := h.ok.LM
  have hln := h.ok.len
  have hb3 := below3 w (.cells #[.int .i64 m.o.k, .int .i64 (m.o.c : Nat), .slice so m.o.s.length sc, .pointer po] 159) (.cells #[.int .i64 0, .int .i64 0] 29) (.cells #[.int .i64 m.o.k, .int .i64 (m.o.c : Nat), .slice so m.o.s.length sc, .pointer po] 159)
  obtain ⟨⟨n0, n1⟩, n2⟩ := @news3 w (.cells #[.int .i64 m.o.k, .int .i64 (m.o.c : Nat), .slice so m.o.s.length sc, .pointer po] 159) (.cells #[.int .i64 0, .int .i64 0] 29) (.cells #[.int .i64 m.o.k, .int .i64 (m.o.c : Nat), .slice so m.o.s.length sc, .pointer po] 159)
  have HM3 := Lib.hid (h.below hb3)
  have HRW := Lib.hid (hov ▸ (h.below hb3).orow)
  have HNW := Lib.hid (World.news_of_block n2)
  have HN0 := Lib.hid n0
  have HN1 := Lib.hid n1
  have HB3 := Lib.hid hb3
  have HF3 : Hid (Fr R w _) := Lib.hid (Fr.of_below hb3)
  have HS3 := Lib.hid (ownsRow_keep hs (Keeps.of_below (P := fun _ => True) hb3) fun _ _ => trivial)
  have HP3 := Lib.hid (hp.move (Keeps.of_below (P := P) hb3))
  have HA : Hid ((∀ b, m.sv.ownBlock = some b → R b = 0 ∧ ¬ P b) ∧ (∀ b, P b → R b = 0 ∧ b < w.heap.size) ∧ m.o.s.length + 1 ≤ m.o.c ∧ m.o.s.all (sdV s.os.length s.ns.length) = true) := Lib.hid ⟨hsR, hpR, hc, hsn⟩
  have HR := Lib.hid hr
  have HOV := Lib.hid hov
  have HCS := Lib.hid hcs
  have hb2 := below2 w (.cells #[.int .i64 m.o.k, .int .i64 (m.o.c : Nat), .slice so m.o.s.length sc, .pointer po] 159) (.cells #[.int .i64 0, .int .i64 0] 29)
  have c2 := (h.below hb2).boxf.2.2.1
  have d2 := (h.below hb3).boxf.2.2.1
  rw [hov] at c2 d2
  rw [hcs]
  clear hb2
  have hgR := h.gR
  have HO2 := Lib.hid h.oR
  have HLT := Lib.hid h.lt
  have HSL : Hid (∀ b, m.sv.ownBlock = some b → b < w.heap.size) := Lib.hid fun b hb => (hs.lt b hb).2
  clear hb3 n0 n1 n2 hs hp hsR hpR hc hr hsn hcs h hov
  show Calls Tryz.prog 136 #[.pointer (some ⟨g, 0, none⟩), .agg #[.int .i64 m.o.k, .int .i64 (m.o.c : Nat), .slice so m.o.s.length sc, .pointer po]] w _
  go_enter Tryz.func136, Tryz.ntmps136
  go_wp2_with fail
  go_region_law (refine step_append_lies _ (by rfl) _ _ 106 (by rfl) 0 159 i0 _ 4 48 Tryz.underlying106 hi hz0 hz1 hz2 rfl (by decide) (.slice vo ms.length vc) ms.length (omLs ms) (by rfl) HRW.out ⟨w.heap.size + 1 + 1, 0, none⟩ 1 1 [.int .i64 m.o.k, .int .i64 (m.o.c : Nat), .slice so m.o.s.length sc, .pointer po] (by rfl) (by rfl) HNW.out (by intro u hu; simp at hu; rcases hu with rfl | rfl | rfl | rfl <;> rfl) (by decide) (by unfold maxLen; omega) (by omega) (by simp) _ rfl ?_; intro g4 cap4 w4 hown4 hgrow4 hat4 hlt4; have hne4 : ∀ b, R b ≠ 2 → some b ≠ (Value.slice vo ms.length vc).ownBlock := (fun b hb e => hb (HO2.out b (HOV.out ▸ e.symm))); have hbx4 := (hgrow4.block g (by simp; omega) (hne4 g (by omega))).trans HM3.out.box; obtain ⟨y0, y1, y2, y3, y4⟩ : w4.cell? ⟨g, 0, none⟩ = some (.int .i64 (s.L : Nat)) ∧ w4.cell? ⟨g, 1, none⟩ = some (.int .i64 (s.U : Nat)) ∧ w4.cell? ⟨g, 2, none⟩ = some (.slice vo ms.length vc) ∧ w4.cell? ⟨g, 3, none⟩ = some nv ∧ w4.frozen? ⟨g, 2, none⟩ = false := ⟨cell_heap hbx4 0, cell_heap hbx4 1, (cell_heap hbx4 2).trans (by rw [← HOV.out]; rfl), cell_heap hbx4 3, frozen_heap hbx4 2⟩)
  all_goals
    have hgrow5 : World.grownBy (((w.alloc (.cells #[.int .i64 m.o.k, .int .i64 (m.o.c : Nat), .slice so m.o.s.length sc, .pointer po] 159)).alloc (.cells #[.int .i64 0, .int .i64 0] 29)).alloc (.cells #[.int .i64 m.o.k, .int .i64 (m.o.c : Nat), .slice so m.o.s.length sc, .pointer po] 159)) w4 ov.ownBlock := by rw [HOV.out]; exact ⟨hgrow4.os, hgrow4.tape, hgrow4.output, hgrow4.size, hgrow4.block⟩
    have HMV : Hid (MovedTo (((w.alloc (.cells #[.int .i64 m.o.k, .int .i64 (m.o.c : Nat), .slice so m.o.s.length sc, .pointer po] 159)).alloc (.cells #[.int .i64 0, .int .i64 0] 29)).alloc (.cells #[.int .i64 m.o.k, .int .i64 (m.o.c : Nat), .slice so m.o.s.length sc, .pointer po] 159)) ov (.slice (some ⟨g4, 0, none⟩) (ms.length + 1) cap4)) := Lib.hid (by
      rw [HOV.out]
      rcases hat4 with h | h
      · exact .inl h.symm
      · exact .inr ⟨g4, rfl, by rw [h]; simp⟩)
    have HOW := Lib.hid (HCS.out ▸ hown4 : w4.ownsRow 0 159 4 (.slice (some ⟨g4, 0, none⟩) (ms.length + 1) cap4) (ms.length + 1) (omLs ms ++ omL m))
    have HG5 := Lib.hid hgrow5
    have hox4 := (hgrow4.block w.heap.size (by simp; omega) (hne4 _ (fun e => by have := HLT.out w.heap.size (by omega); omega))).trans HN0.out
    have hrx4 := (hgrow4.block (w.heap.size + 1) (by simp) (hne4 _ (fun e => by have := HLT.out (w.heap.size + 1) (by omega); omega))).trans HN1.out
    have hbx5 : (w4.setCell ⟨g, 2, none⟩ (.slice (some ⟨g4, 0, none⟩) (ms.length + 1) cap4)).heap[g]? = some (.cells #[.int .i64 (s.L : Nat), .int .i64 (s.U : Nat), .slice (some ⟨g4, 0, none⟩) (ms.length + 1) cap4, nv, mv] 110 (0, 0)) := rowSet hbx4 2 _
    have hox5 := (Below.heap_setCell w4 ⟨g, 2, none⟩ (.slice (some ⟨g4, 0, none⟩) (ms.length + 1) cap4) w.heap.size (by simp; omega)).trans hox4
    have hrx5 := (Below.heap_setCell w4 ⟨g, 2, none⟩ (.slice (some ⟨g4, 0, none⟩) (ms.length + 1) cap4) (w.heap.size + 1) (by simp; omega)).trans hrx4
    have HK45 := Lib.hid ((Keeps.refl (fun b => b ≠ g) w4).set (p := ⟨g, 2, none⟩) (fun h => h rfl) (.slice (some ⟨g4, 0, none⟩) (ms.length + 1) cap4))
    have HF5 := Lib.hid ((HF3.out.grown hgrow5 (fun k hk => .inr (by rw [HO2.out k hk]; omega))).set (p := ⟨g, 2, none⟩) (.inr (by show R g ≠ 0; omega)) (.slice (some ⟨g4, 0, none⟩) (ms.length + 1) cap4))
    have hsz4 := hgrow4.size
    have hsz5 : (w4.setCell ⟨g, 2, none⟩ (.slice (some ⟨g4, 0, none⟩) (ms.length + 1) cap4)).heap.size = w4.heap.size := by simp
    have HSZ : Hid (w.heap.size + 3 ≤ w4.heap.size) := Lib.hid (by simp at hsz4; omega)
    clear hgrow4 hgrow5 hat4 hlt4 hne4 hbx4 y0 y1 y2 y3 y4 hox4 hrx4 hown4 hsz4 hsz5 c2 d2
    generalize w4.setCell ⟨g, 2, none⟩ (.slice (some ⟨g4, 0, none⟩) (ms.length + 1) cap4) = w5 at *
    have HX5 := Lib.hid hbx5
    obtain ⟨y1, y2, z1⟩ : w5.cell? ⟨g, 1, none⟩ = some (.int .i64 (s.U : Nat)) ∧ w5.cell? ⟨g, 2, none⟩ = some (.slice (some ⟨g4, 0, none⟩) (ms.length + 1) cap4) ∧ w5.frozen? ⟨g, 1, none⟩ = false := ⟨cell_heap hbx5 1, cell_heap hbx5 2, frozen_heap hbx5 1⟩
    have x1 : w5.cell? ⟨w.heap.size, 1, none⟩ = some (.int .i64 (m.o.c : Nat)) := cell_heap hox5 1
    obtain ⟨r0, r1, v0, v1⟩ := row2 hrx5
    have hwr : IntKind.i64.wrap (((s.U : Nat) : Int) + ((m.o.c : Nat) : Int)) = ((s.U + m.o.c : Nat) : Int) := by rw [IntKind.wrap_i64]; have := HR.out; omega
    have hng : g ≠ w.heap.size + 1 := by omega
    clear hbx5 hox5 hrx5
    go_wp2_with fail
    go_region
    go_wp2_with fail
    refine bodyPost_ret (v := vV (7, ((s.os.length : Nat) : Int))) (by simp [results, Tryz.results136, go_sem, vV, r0, r1, hol]) rfl ⟨rfl, ?_⟩
    have hbx6 : (w5.setCell ⟨g, 1, none⟩ (.int .i64 ((s.U + m.o.c : Nat) : Int))).heap[g]? = some (.cells #[.int .i64 (s.L : Nat), .int .i64 ((s.U + m.o.c : Nat) : Int), .slice (some ⟨g4, 0, none⟩) (ms.length + 1) cap4, nv, mv] 110 (0, 0)) := rowSet HX5.out 1 _
    obtain ⟨R', hst, hR1, hR2⟩ := StM.add HM3.out HS3.out (fun b hb => HA.out.1 b hb) HP3.out (fun b hb => ⟨(HA.out.2.1 b hb).1, by have := (HA.out.2.1 b hb).2; simp; omega⟩) HOW.out HG5.out HMV.out HA.out.2.2.1 HR.out HA.out.2.2.2 hbx6 (HK45.out.set (p := ⟨g, 1, none⟩) (fun h => h rfl) _)
    have hR3 : ∀ b, R' b ≠ 0 → b ≠ w.heap.size + 1 := fun b hb e => by
      subst e
      rcases hR2 _ hb with h | h | h | h
      · have := HLT.out _ h; omega
      · have := (HS3.out.lt _ h); have h2 := (HA.out.1 _ h); have h3 := HSL.out _ h; omega
      · have := (HA.out.2.1 _ h).2; omega
      · simp at h; omega
    refine ⟨R', ⟨_, _, _, _, hst.keep (((Keeps.refl (fun b => R' b ≠ 0) _).set (p := ⟨w.heap.size + 1, 0, none⟩) (fun h => hR3 _ h rfl) _).set (p := ⟨w.heap.size + 1, 1, none⟩) (fun h => hR3 _ h rfl) _)⟩, ?_, hR1, fun b hb => ?_⟩
    · exact (((HF5.out.set (p := ⟨g, 1, none⟩) (.inr (by show R g ≠ 0; omega)) _).set (p := ⟨w.heap.size + 1, 0, none⟩) (.inl (by simp)) _).set (p := ⟨w.heap.size + 1, 1, none⟩) (.inl (by simp)) _).drew
    · rcases hR2 b hb with h | h | h | h
      · exact .inl h
      · exact .inr (.inl h)
      · exact .inr (.inr (.inl h))
      · exact .inr (.inr (.inr (by simp at h; omega)))

set_option maxRecDepth 100000 in
set_option maxHeartbeats 2000000 in
theorem stmake_any (g : Nat) (R : Nat → Nat) (s : St) (k : Int) (lv : Value) (l : List (Int × Int)) (w : World) (h : StW w g R s) (hr : RowV w lv l.length 2 (vcs l)) (hl : l.length ≤ 2000000) :
    Calls Tryz.prog 89 #[.pointer (some ⟨g, 0, none⟩), .int .i64 k, lv] w fun e w' => e = .returned (.tuple #[vV (s.make k l).1.1, .int .i64 (s.make k l).1.2]) ∧ StP w g R (s.make k l).2 w' := by
  have HS := Lib.hid h
  have HR := Lib.hid hr
  have hL := h.ok.LM
  have hU := h.ok.UL
  have HB1 := Lib.hid (below1 w (.cells #[.int .i64 0, .int .i64 0] 29))
  have HN1 := Lib.hid (box1 w #[.int .i64 0, .int .i64 0] 29)
  have HMAY : Hid (∀ (k : Int) (n : Nat) (w : World), Calls Tryz.prog 133 #[.int .i64 k, .int .i64 (n : Nat)] w fun e w' => e = .returned (.bool (mayA k n)) ∧ w' = w) := Lib.hid stmay_any
  obtain ⟨ao, cap, rfl⟩ : ∃ a c, lv = .slice a l.length c := by obtain ⟨_, _, a, c, e, _⟩ := hr; exact ⟨a, c, e⟩
  clear h hr
  cases hmay : mayA k l.length with
  | false =>
    have HE : Hid (s.make k l = (((0, 0), 1), s)) := Lib.hid (by unfold St.make; rw [if_pos hmay])
    have HMY := Lib.hid hmay
    clear hmay
    go_enter Tryz.func89, Tryz.ntmps89
    go_wp2_with fail
    refine (HMAY.out _ _ _).mono ?_
    rintro e w1 ⟨rfl, hw⟩
    rw [HMY.out]
    subst hw
    obtain ⟨p0, p1, z0, z1⟩ := row2 HN1.out
    go_wp2_with fail
    rw [HE.out]
    refine bodyPost_ret (v := .tuple #[vV (0, 0), .int .i64 1]) (by simp [results, Tryz.results89, go_sem, vV]) rfl ⟨rfl, R, HS.out.below HB1.out, Fr.of_below HB1.out, fun _ _ => Iff.rfl⟩
  | true =>
    have HMY := Lib.hid hmay
    clear hmay
    go_enter Tryz.func89, Tryz.ntmps89
    go_wp2_with fail
    refine (HMAY.out _ _ _).mono ?_
    rintro e w1 ⟨rfl, hw⟩
    rw [HMY.out]
    subst hw
    go_wp2_with fail
    refine (stall_any g R s (.slice ao l.length cap) l _ (HS.out.below HB1.out) (HR.out.below HB1.out)).mono ?_
    rintro e w1 ⟨rfl, hb1⟩
    have HB2 := Lib.hid (HB1.out.trans (hb1.mono (by simp)))
    have hbx := (hb1.block w.heap.size (by simp)).trans HN1.out
    have HX := Lib.hid hbx
    obtain ⟨p0, p1, z0, z1⟩ := row2 hbx
    clear hb1 hbx
    cases hall : l.all (sdV s.os.length s.ns.length) with
    | false =>
      have HE : Hid (s.make k l = (((0, 0), 2), s)) := Lib.hid (by unfold St.make; rw [if_neg (by rw [HMY.out]; simp), if_pos hall])
      clear hall
      go_wp2_with fail
      rw [HE.out]
      refine bodyPost_ret (v := .tuple #[vV (0, 0), .int .i64 2]) (by simp [results, Tryz.results89, go_sem, vV, p0, p1]) rfl ⟨rfl, R, HS.out.below ((HB2.out.setCell (by simp) _).setCell (by simp) _), Fr.of_below ((HB2.out.setCell (by simp) _).setCell (by simp) _), fun _ _ => Iff.rfl⟩
    | true =>
      have HAL := Lib.hid hall
      clear hall
      have hc0 : w1.cell? ⟨g, 0, none⟩ = some (.int .i64 (s.L : Nat)) := by obtain ⟨_, _, _, _, h⟩ := HS.out.below HB2.out; exact h.boxf.1
      have hc1 : w1.cell? ⟨g, 1, none⟩ = some (.int .i64 (s.U : Nat)) := by obtain ⟨_, _, _, _, h⟩ := HS.out.below HB2.out; exact h.boxf.2.1
      have HC0 := Lib.hid hc0
      have HC1 := Lib.hid hc1
      clear hc0 hc1
      go_wp2_with fail
      refine (stroom_any g s.L s.U _ hL (by omega) HC0.out HC1.out).mono ?_
      rintro e w2 ⟨rfl, nd, rfl⟩
      have HB3 := Lib.hid (below_drewN HB2.out nd)
      have hbx : (w1.drewN nd).heap[w.heap.size]? = some (.cells #[.int .i64 0, .int .i64 0] 29 (0, 0)) := HX.out
      have HX3 := Lib.hid hbx
      generalize w1.drewN nd = w3 at *
      obtain ⟨p0, p1, z0, z1⟩ := row2 hbx
      clear hbx
      by_cases hf : s.L < s.U + (1 + l.length)
      · have HE : Hid (s.make k l = (((0, 0), 16), s)) := Lib.hid (by unfold St.make; rw [if_neg (by rw [HMY.out]; simp), if_neg (by rw [HAL.out]; simp), if_pos hf])
        have hq : ((s.L : Int) - (s.U : Int)) < 1 + ((l.length : Nat) : Int) := by omega
        clear hf
        go_wp2_with fail
        rw [HE.out]
        refine bodyPost_ret (v := .tuple #[vV (0, 0), .int .i64 16]) (by simp [results, Tryz.results89, go_sem, vV, p0, p1]) rfl ⟨rfl, R, HS.out.below ((HB3.out.setCell (by simp) _).setCell (by simp) _), Fr.of_below ((HB3.out.setCell (by simp) _).setCell (by simp) _), fun _ _ => Iff.rfl⟩
      · have HE : Hid (s.make k l = (((7, ((s.os.length : Nat) : Int)), 0), s.add ⟨k, 1 + l.length, l, none⟩)) := Lib.hid (by unfold St.make; rw [if_neg (by rw [HMY.out]; simp), if_neg (by rw [HAL.out]; simp), if_neg hf])
        have hq : ¬ ((s.L : Int) - (s.U : Int)) < 1 + ((l.length : Nat) : Int) := by omega
        have HF := Lib.hid hf
        clear hf
        go_wp2_with fail
        refine (stown_any (.slice ao l.length cap) l _ (HR.out.below HB3.out) hl).mono ?_
        rintro e w4 ⟨sv, rfl, ho4, hb4⟩
        have HB4 := Lib.hid (HB3.out.trans (hb4.mono HB3.out.size))
        have hb34 := HB3.out.size
        have hb44 := hb4.size
        have hX4 := (hb4.block w.heap.size (Array.getElem?_eq_some_iff.1 HX3.out).1).trans HX3.out
        obtain ⟨ms, ov, nv, mv, hm4⟩ := HS.out.below HB4.out
        have HM4 := Lib.hid hm4
        have HO4 := Lib.hid ho4
        have HX4 := Lib.hid hX4
        have HLT := Lib.hid HS.out.lt
        obtain ⟨so, sc, rfl⟩ := own_dslice ho4
        clear hm4 ho4 hX4 hb4 p0 p1 z0 z1
        go_wp2_with fail
        refine (stput_any g R s ms ov nv mv ⟨⟨k, 1 + l.length, l, none⟩, .slice so l.length sc, .pointer none⟩ (fun _ => False) _ HM4.out (ownsRow_base HO4.out (Nat.zero_le _)) (fun b hb => ⟨Classical.byContradiction fun hn => by have := HLT.out b hn; have h2 := (HO4.out.lt b hb).1; omega, fun h => h⟩) rfl (fun b hb => hb.elim) (by show l.length + 1 ≤ 1 + l.length; omega) (by show s.U + (1 + l.length) ≤ s.L; have := HF.out; omega) HAL.out).mono ?_
        rintro e w5 ⟨he, R', hst, hfr, hr1, hr2⟩
        unfold vV at he
        simp only at he
        subst he
        have hR0 : R w.heap.size = 0 := Classical.byContradiction fun hn => by have := HLT.out _ hn; omega
        have hX5 := (hfr.blk w.heap.size (Array.getElem?_eq_some_iff.1 HX4.out).1 hR0).trans HX4.out
        have HST := Lib.hid hst
        have HFR := Lib.hid ((Fr.of_below (R := R) HB4.out).tr hfr)
        have hlt4 := (Array.getElem?_eq_some_iff.1 HX4.out).1
        have HR2 : Hid (∀ b, b < w.heap.size + 1 → (R' b = 0 ↔ R b = 0)) := Lib.hid fun b hb => by
          constructor
          · intro h0
            exact Classical.byContradiction fun hn => by rw [hr1 b hn] at h0; exact hn h0
          · intro h0
            refine Classical.byContradiction fun hn => ?_
            rcases hr2 b hn with h | h | h | h
            · exact h h0
            · have := (HO4.out.lt b h).1; have h3 := (Array.getElem?_eq_some_iff.1 HX3.out).1; omega
            · exact h
            · omega
        obtain ⟨p0, p1, z0, z1⟩ := row2 hX5
        clear hX5 hst hfr hr1 hr2
        go_wp2_with fail
        rw [HE.out]
        refine bodyPost_ret (v := .tuple #[vV (7, ((s.os.length : Nat) : Int)), .int .i64 0]) (by simp [results, Tryz.results89, go_sem, vV, p0, p1]) rfl ⟨rfl, R', HST.out.keep (((Keeps.refl (fun b => R' b ≠ 0) _).set (p := ⟨w.heap.size, 0, none⟩) (fun h => h ((HR2.out w.heap.size (by omega)).2 hR0)) _).set (p := ⟨w.heap.size, 1, none⟩) (fun h => h ((HR2.out w.heap.size (by omega)).2 hR0)) _), (HFR.out.set (p := ⟨w.heap.size, 0, none⟩) (.inl (Nat.le_refl _)) _).set (p := ⟨w.heap.size, 1, none⟩) (.inl (Nat.le_refl _)) _, fun b hb => HR2.out b (by omega)⟩
end Go.Proofs.YtocladhggcaokaaGreatDoor
