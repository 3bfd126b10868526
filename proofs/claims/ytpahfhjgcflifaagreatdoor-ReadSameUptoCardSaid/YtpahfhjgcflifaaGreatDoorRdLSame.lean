/- The law ReadSame, at any world. -/
import Derived.Test.YtpahfhjgcflifaaGreatDoorRdRead
import Derived.Test.YtpahfhjgcflifaaGreatDoorRdLight
import Derived.Test.YtpahfhjgcflifaaGreatDoorRdSize
import Derived.Test.YtpahfhjgcflifaaGreatDoorOrd
namespace Go.Proofs.YtpahfhjgcflifaaGreatDoor
open Go.RowKit

def isD (D : Dm) : Value → World → Prop := fun v w => ∃ us : List Value, v = .agg us.toArray ∧ Lay w D us
theorem isD_stays (D : Dm) : Stays (isD D) := fun _ _ _ hb ⟨us, h1, h2⟩ => ⟨us, h1, h2.keep hb⟩
theorem lay_at {w : World} {k : Int} {t : List Nat} {n : Bool} {r : List Nat} {l : List Dm} {a : Int} {x0 x1 x2 x3 x4 x5 : Value} (h : Lay w (.mk k t n r l a) [x0, x1, x2, x3, x4, x5]) (b : Int) : Lay w (.mk k t n r l b) [x0, x1, x2, x3, x4, .int .i64 b] := by
  cases h with
  | mk hby hlt hlim hr hrow hin => exact .mk hby hlt hlim hr hrow hin
theorem same_at {k : Int} {t : List Nat} {n : Bool} {r : List Nat} {l : List Dm} {a b : Int} : sameA (.mk k t n r l a) (.mk k t n r l b) = true := sameA_true (by rw [strip_mk, strip_mk])
theorem AllOps.cons {R : Nat → Oper → Prop} {k : Nat} {o : Oper} {r : List Oper} (h : R k o) (h' : AllOps R (k + 1) r) : AllOps R k (o :: r) := ⟨h, h'⟩

set_option maxRecDepth 100000 in
set_option maxHeartbeats 8000000 in
theorem readsame_any (A B : Dm) (us vs : List Value) (atv : Int) (w : World) (h1 : Lay w A us) (h2 : Lay w B vs) (hsA : Sm 1048576 A) (hsB : Sm 1048576 B) (ht : Tabs2 w) (hwd : Words w) (hmk : Marks w) :
    Calls Tryz.prog 4 #[.agg us.toArray, .agg vs.toArray, .int .i64 atv] w fun e w' => e = .returned (.bool true) ∧ Below w.heap.size w w' := by
  have hlen : us.length = 6 := by cases h1; rfl
  have hlen2 : vs.length = 6 := by cases h2; rfl
  obtain ⟨u0, u1, u2, u3, u4, u5, rfl⟩ : ∃ u0 u1 u2 u3 u4 u5, us = [u0, u1, u2, u3, u4, u5] := by
    match us, hlen with
    | [a, b, c, d, e, f], _ => exact ⟨a, b, c, d, e, f, rfl⟩
  obtain ⟨v0, v1, v2, v3, v4, v5, rfl⟩ : ∃ u0 u1 u2 u3 u4 u5, vs = [u0, u1, u2, u3, u4, u5] := by
    match vs, hlen2 with
    | [a, b, c, d, e, f], _ => exact ⟨a, b, c, d, e, f, rfl⟩
  have hb1 := below2 w (.cells #[u0, u1, u2, u3, u4, u5] 27) (.cells #[v0, v1, v2, v3, v4, v5] 27)
  have hx1 : ((w.alloc (.cells #[u0, u1, u2, u3, u4, u5] 27)).alloc (.cells #[v0, v1, v2, v3, v4, v5] 27)).heap[w.heap.size]? = some (.cells #[u0, u1, u2, u3, u4, u5] 27 (0, 0)) := by rw [Below.heap_alloc _ _ _ (by simp)]; exact heap_alloc_new w _
  have hy1 : ((w.alloc (.cells #[u0, u1, u2, u3, u4, u5] 27)).alloc (.cells #[v0, v1, v2, v3, v4, v5] 27)).heap[w.heap.size + 1]? = some (.cells #[v0, v1, v2, v3, v4, v5] 27 (0, 0)) := by have := heap_alloc_new (w.alloc (.cells #[u0, u1, u2, u3, u4, u5] 27)) (.cells #[v0, v1, v2, v3, v4, v5] 27); simpa using this
  have HLA := Lib.hid h1
  have HLB := Lib.hid h2
  have HSA := Lib.hid hsA
  have HSB := Lib.hid hsB
  have HB1 := Lib.hid hb1
  have HT := Lib.hid ht
  have HW := Lib.hid hwd
  have HM := Lib.hid hmk
  obtain ⟨c0, c1, c2, c3, c4, c5⟩ := row6 hx1
  obtain ⟨d0, d1, d2, d3, d4, d5⟩ := row6 hy1
  have hsz : w.heap.size + 1 < ((w.alloc (.cells #[u0, u1, u2, u3, u4, u5] 27)).alloc (.cells #[v0, v1, v2, v3, v4, v5] 27)).heap.size := by simp
  have HX1 := Lib.hid hx1
  have HY1 := Lib.hid hy1
  clear h1 h2 hsA hsB ht hwd hmk hb1 hx1 hy1 hlen hlen2
  show Calls Tryz.prog 4 #[.agg #[u0, u1, u2, u3, u4, u5], .agg #[v0, v1, v2, v3, v4, v5], .int .i64 atv] w _
  go_enter Tryz.func4, Tryz.ntmps4
  go_wp2_with fail
  have hlc := light_dm 100 A [u0, u1, u2, u3, u4, u5] _ 1 (by omega) (by omega) (HLA.out.keep HB1.out)
  refine hlc.mono ?_
  clear hlc
  rintro e w1 ⟨rfl, hb⟩
  have HB := Lib.hid (HB1.out.trans (hb.mono HB1.out.size))
  have HX2 := Lib.hid ((hb.block w.heap.size (by omega)).trans HX1.out)
  have HY2 := Lib.hid ((hb.block (w.heap.size + 1) (by omega)).trans HY1.out)
  have hsz1 : w.heap.size + 1 < w1.heap.size := Nat.lt_of_lt_of_le hsz hb.size
  clear hb c0 c1 c2 c3 c4 c5 d0 d1 d2 d3 d4 d5 hsz HX1 HY1
  cases hli : lightA 100 A with
  | false =>
    go_wp2_with fail
    refine (ranswers_any _ (HT.out.below HB.out) (HW.out.below HB.out) (HM.out.below HB.out)).mono ?_
    rintro e w2 ⟨rfl, hb2⟩
    have HB2 := Lib.hid (HB.out.trans (hb2.mono HB.out.size))
    clear hb2
    go_wp2_with fail
    go_ret
    exact ⟨rfl, HB2.out⟩
  | true =>
    obtain ⟨d0, d1, d2, d3, d4, d5⟩ := row6 HY2.out
    go_wp2_with fail
    have hlc := light_dm 100 B [v0, v1, v2, v3, v4, v5] _ 1 (by omega) (by omega) (HLB.out.keep HB.out)
    refine hlc.mono ?_
    clear hlc
    rintro e w2 ⟨rfl, hb⟩
    have HBB := Lib.hid (HB.out.trans (hb.mono HB.out.size))
    have HX3 := Lib.hid ((hb.block w.heap.size (by omega)).trans HX2.out)
    have HY3 := Lib.hid ((hb.block (w.heap.size + 1) (by omega)).trans HY2.out)
    have hsz2 : w.heap.size + 1 < w2.heap.size := Nat.lt_of_lt_of_le hsz1 hb.size
    clear hb d0 d1 d2 d3 d4 d5 hsz1 HX2 HY2 HB hli
    cases hli : lightA 100 B with
    | false =>
      go_wp2_with fail
      refine (ranswers_any _ (HT.out.below HBB.out) (HW.out.below HBB.out) (HM.out.below HBB.out)).mono ?_
      rintro e w3 ⟨rfl, hb2⟩
      have HB2 := Lib.hid (HBB.out.trans (hb2.mono HBB.out.size))
      clear hb2
      go_wp2_with fail
      go_ret
      exact ⟨rfl, HB2.out⟩
    | true =>
      obtain ⟨c0, c1, c2, c3, c4, c5⟩ := row6 HX3.out
      go_wp2_with fail
      refine (own_dm 1048576 (by omega) _ A (Nat.le_refl _) HSA.out [u0, u1, u2, u3, u4, u5] _ (HLA.out.keep HBB.out)).mono ?_
      rintro e w3 ⟨us3, rfl, hl3, hb⟩
      have HL3 := Lib.hid hl3.lay
      obtain ⟨ka, ta, na, ra, la, aa⟩ := A
      obtain ⟨lv, av, xs, rfl, _, _, _, hsl, _, hrow, _, _⟩ := hl3.row
      obtain ⟨_, lo, lc, rfl, _⟩ := hsl
      obtain ⟨_, _, mo, mc, rfl, _⟩ := hrow
      have HB3 := Lib.hid (HBB.out.trans (hb.mono HBB.out.size))
      have HX4 := Lib.hid ((hb.block w.heap.size (by omega)).trans HX3.out)
      have HY4 := Lib.hid ((hb.block (w.heap.size + 1) (by omega)).trans HY3.out)
      have hsz3 : w.heap.size + 1 < w3.heap.size := Nat.lt_of_lt_of_le hsz2 hb.size
      clear hb hl3 c0 c1 c2 c3 c4 c5 hsz2 HX3 HY3 HBB hli
      go_wp2_with fail
      have HB5 := Lib.hid (HB3.out.trans ((below1 w3 (.cells #[.int .i64 ka, .string (mkB ta), .bool na, .slice lo ra.length lc, .slice mo la.length mc, .int .i64 atv] 27)).mono HB3.out.size))
      have hz := heap_alloc_new w3 (.cells #[.int .i64 ka, .string (mkB ta), .bool na, .slice lo ra.length lc, .slice mo la.length mc, .int .i64 atv] 27)
      have hbz := below1 w3 (.cells #[.int .i64 ka, .string (mkB ta), .bool na, .slice lo ra.length lc, .slice mo la.length mc, .int .i64 atv] 27)
      have hszz : w3.heap.size < (w3.alloc (.cells #[.int .i64 ka, .string (mkB ta), .bool na, .slice lo ra.length lc, .slice mo la.length mc, .int .i64 atv] 27)).heap.size := by simp
      have HX5 : Hid (∀ W, Below (w3.alloc (.cells #[.int .i64 ka, .string (mkB ta), .bool na, .slice lo ra.length lc, .slice mo la.length mc, .int .i64 atv] 27)).heap.size (w3.alloc (.cells #[.int .i64 ka, .string (mkB ta), .bool na, .slice lo ra.length lc, .slice mo la.length mc, .int .i64 atv] 27)) W → W.heap[w.heap.size]? = some (.cells #[u0, u1, u2, u3, u4, u5] 27 (0, 0))) := Lib.hid fun W hW => (hW.block _ (by omega)).trans ((hbz.block _ (by omega)).trans HX4.out)
      have HY5 : Hid (∀ W, Below (w3.alloc (.cells #[.int .i64 ka, .string (mkB ta), .bool na, .slice lo ra.length lc, .slice mo la.length mc, .int .i64 atv] 27)).heap.size (w3.alloc (.cells #[.int .i64 ka, .string (mkB ta), .bool na, .slice lo ra.length lc, .slice mo la.length mc, .int .i64 atv] 27)) W → W.heap[w.heap.size + 1]? = some (.cells #[v0, v1, v2, v3, v4, v5] 27 (0, 0))) := Lib.hid fun W hW => (hW.block _ (by omega)).trans ((hbz.block _ (by omega)).trans HY4.out)
      have HZ5 : Hid (∀ W, Below (w3.alloc (.cells #[.int .i64 ka, .string (mkB ta), .bool na, .slice lo ra.length lc, .slice mo la.length mc, .int .i64 atv] 27)).heap.size (w3.alloc (.cells #[.int .i64 ka, .string (mkB ta), .bool na, .slice lo ra.length lc, .slice mo la.length mc, .int .i64 atv] 27)) W → W.heap[w3.heap.size]? = some (.cells #[.int .i64 ka, .string (mkB ta), .bool na, .slice lo ra.length lc, .slice mo la.length mc, .int .i64 atv] 27 (0, 0))) := Lib.hid fun W hW => (hW.block _ hszz).trans hz
      have HLC := Lib.hid ((lay_at HL3.out atv).keep hbz)
      have HLC5 := Lib.hid fun W (hW : Below (w3.alloc (.cells #[.int .i64 ka, .string (mkB ta), .bool na, .slice lo ra.length lc, .slice mo la.length mc, .int .i64 atv] 27)).heap.size (w3.alloc (.cells #[.int .i64 ka, .string (mkB ta), .bool na, .slice lo ra.length lc, .slice mo la.length mc, .int .i64 atv] 27)) W) => HLC.out.keep hW
      have HLA5 := Lib.hid fun W (hW : Below (w3.alloc (.cells #[.int .i64 ka, .string (mkB ta), .bool na, .slice lo ra.length lc, .slice mo la.length mc, .int .i64 atv] 27)).heap.size (w3.alloc (.cells #[.int .i64 ka, .string (mkB ta), .bool na, .slice lo ra.length lc, .slice mo la.length mc, .int .i64 atv] 27)) W) => HLA.out.keep (HB5.out.trans (hW.mono HB5.out.size))
      have HLB5 := Lib.hid fun W (hW : Below (w3.alloc (.cells #[.int .i64 ka, .string (mkB ta), .bool na, .slice lo ra.length lc, .slice mo la.length mc, .int .i64 atv] 27)).heap.size (w3.alloc (.cells #[.int .i64 ka, .string (mkB ta), .bool na, .slice lo ra.length lc, .slice mo la.length mc, .int .i64 atv] 27)) W) => HLB.out.keep (HB5.out.trans (hW.mono HB5.out.size))
      have HT5 := Lib.hid fun W (hW : Below (w3.alloc (.cells #[.int .i64 ka, .string (mkB ta), .bool na, .slice lo ra.length lc, .slice mo la.length mc, .int .i64 atv] 27)).heap.size (w3.alloc (.cells #[.int .i64 ka, .string (mkB ta), .bool na, .slice lo ra.length lc, .slice mo la.length mc, .int .i64 atv] 27)) W) => HT.out.below (HB5.out.trans (hW.mono HB5.out.size))
      have HW5 := Lib.hid fun W (hW : Below (w3.alloc (.cells #[.int .i64 ka, .string (mkB ta), .bool na, .slice lo ra.length lc, .slice mo la.length mc, .int .i64 atv] 27)).heap.size (w3.alloc (.cells #[.int .i64 ka, .string (mkB ta), .bool na, .slice lo ra.length lc, .slice mo la.length mc, .int .i64 atv] 27)) W) => HW.out.below (HB5.out.trans (hW.mono HB5.out.size))
      have HM5 := Lib.hid fun W (hW : Below (w3.alloc (.cells #[.int .i64 ka, .string (mkB ta), .bool na, .slice lo ra.length lc, .slice mo la.length mc, .int .i64 atv] 27)).heap.size (w3.alloc (.cells #[.int .i64 ka, .string (mkB ta), .bool na, .slice lo ra.length lc, .slice mo la.length mc, .int .i64 atv] 27)) W) => HM.out.below (HB5.out.trans (hW.mono HB5.out.size))
      clear hz hbz hszz
      -- REGION
      refine wp_region_slots (psi [isV (.bool true), isV (.bool true), isV (.agg #[u0, u1, u2, u3, u4, u5]), isD (.mk ka ta na ra la aa), isV (.agg #[v0, v1, v2, v3, v4, v5]), isD B, isV (.bool (sameA (.mk ka ta na ra la aa) B)), isV (.agg #[u0, u1, u2, u3, u4, u5]), isV (.agg #[v0, v1, v2, v3, v4, v5]), isV (.bool (sameA (.mk ka ta na ra la aa) B)), isV (.bool true), isV (.bool true), isV (.bool true), isV (.agg #[u0, u1, u2, u3, u4, u5]), isD (.mk ka ta na ra la aa), isV (.agg #[.int .i64 ka, .string (mkB ta), .bool na, .slice lo ra.length lc, .slice mo la.length mc, .int .i64 atv]), isV (.bool true), isV (.bool true), isV (.bool true), isV (.agg #[v0, v1, v2, v3, v4, v5]), isD B, isV (.agg #[u0, u1, u2, u3, u4, u5]), isD (.mk ka ta na ra la aa), isV (.bool (sameA B (.mk ka ta na ra la aa))), isV (.agg #[u0, u1, u2, u3, u4, u5]), isD (.mk ka ta na ra la aa), isV (.agg #[v0, v1, v2, v3, v4, v5]), isD B, isV (.bool (sameA (.mk ka ta na ra la aa) B)), isV (.bool true), isV (.bool true), isV (.bool true)]) (fun W => Below (w3.alloc (.cells #[.int .i64 ka, .string (mkB ta), .bool na, .slice lo ra.length lc, .slice mo la.length mc, .int .i64 atv] 27)).heap.size (w3.alloc (.cells #[.int .i64 ka, .string (mkB ta), .bool na, .slice lo ra.length lc, .slice mo la.length mc, .int .i64 atv] 27)) W) (by kernel_rfl) (Below.refl _ _).drew (psi_mono ?_) (by kernel_rfl) (by kernel_rfl) ?_ ?_
      · intro p hp
        simp only [List.mem_cons, List.not_mem_nil, or_false] at hp
        (repeat' rcases hp with rfl | hp) <;> first | exact isV_stays _ | exact isD_stays _ | (subst hp; exact isV_stays _)
      refine AllOps.cons ?_ ?_
      · intro a W hC hB hdep
        refine ⟨rfl, ?_⟩
        refine goes_call (by go_simp) ((ranswers_any _ (HT5.out W hC) (HW5.out W hC) (HM5.out W hC)).mono fun e w' ⟨he, hb⟩ => ⟨_, he, hC.trans (hb.mono hC.size), hb, rfl⟩)
      refine AllOps.cons ?_ ?_
      · intro a W hC hB hdep
        refine ⟨rfl, ?_⟩
        obtain ⟨xa, (qa : xa = .bool true), ea⟩ := hdep 0 21 (by kernel_rfl)
        subst qa
        refine goes_value (v := .bool true) ?_ hC rfl
        simp only [execOp, Act.eval, ea]
        go_simp
      refine AllOps.cons ?_ ?_
      · intro a W hC hB hdep
        obtain ⟨xg, (qg : xg = .bool true), eg⟩ := hdep 1 22 (by kernel_rfl)
        subst qg
        refine ⟨wanted_of (g := 1) (t := 22) rfl rfl (by rw [hB.size]; simp) eg, ?_⟩
        have ea : a.tmps.getD 3 undef = .pointer (some ⟨w.heap.size, 0, none⟩) := hB.off 3 (by kernel_rfl)
        obtain ⟨c0, c1, c2, c3, c4, c5⟩ := row6 (HX5.out W hC)
        refine goes_value (v := .agg #[u0, u1, u2, u3, u4, u5]) ?_ hC rfl
        simp only [execOp, Act.eval, ea]
        go_simp
      refine AllOps.cons ?_ ?_
      · intro a W hC hB hdep
        obtain ⟨xg, (qg : xg = .bool true), eg⟩ := hdep 1 22 (by kernel_rfl)
        subst qg
        refine ⟨wanted_of (g := 1) (t := 22) rfl rfl (by rw [hB.size]; simp) eg, ?_⟩
        obtain ⟨xa, (qa : xa = .agg #[u0, u1, u2, u3, u4, u5]), ea⟩ := hdep 2 23 (by kernel_rfl)
        subst qa
        refine goes_call (f := 13) (args := #[.agg #[u0, u1, u2, u3, u4, u5]]) ?_ ?_
        · simp only [execOp]
          go_simp
        · exact (own_dm 1048576 (by omega) _ (.mk ka ta na ra la aa) (Nat.le_refl _) HSA.out _ W (HLA5.out W hC)).mono fun e w' ⟨us, he, hl, hb⟩ => ⟨_, he, hC.trans (hb.mono hC.size), hb, us, rfl, hl.lay⟩
      refine AllOps.cons ?_ ?_
      · intro a W hC hB hdep
        obtain ⟨xg, (qg : xg = .bool true), eg⟩ := hdep 1 22 (by kernel_rfl)
        subst qg
        refine ⟨wanted_of (g := 1) (t := 22) rfl rfl (by rw [hB.size]; simp) eg, ?_⟩
        have ea : a.tmps.getD 4 undef = .pointer (some ⟨(w.heap.size + 1), 0, none⟩) := hB.off 4 (by kernel_rfl)
        obtain ⟨c0, c1, c2, c3, c4, c5⟩ := row6 (HY5.out W hC)
        refine goes_value (v := .agg #[v0, v1, v2, v3, v4, v5]) ?_ hC rfl
        simp only [execOp, Act.eval, ea]
        go_simp
      refine AllOps.cons ?_ ?_
      · intro a W hC hB hdep
        obtain ⟨xg, (qg : xg = .bool true), eg⟩ := hdep 1 22 (by kernel_rfl)
        subst qg
        refine ⟨wanted_of (g := 1) (t := 22) rfl rfl (by rw [hB.size]; simp) eg, ?_⟩
        obtain ⟨xa, (qa : xa = .agg #[v0, v1, v2, v3, v4, v5]), ea⟩ := hdep 4 25 (by kernel_rfl)
        subst qa
        refine goes_call (f := 13) (args := #[.agg #[v0, v1, v2, v3, v4, v5]]) ?_ ?_
        · simp only [execOp]
          go_simp
        · exact (own_dm 1048576 (by omega) _ B (Nat.le_refl _) HSB.out _ W (HLB5.out W hC)).mono fun e w' ⟨us, he, hl, hb⟩ => ⟨_, he, hC.trans (hb.mono hC.size), hb, us, rfl, hl.lay⟩
      refine AllOps.cons ?_ ?_
      · intro a W hC hB hdep
        obtain ⟨xg, (qg : xg = .bool true), eg⟩ := hdep 1 22 (by kernel_rfl)
        subst qg
        refine ⟨wanted_of (g := 1) (t := 22) rfl rfl (by rw [hB.size]; simp) eg, ?_⟩
        obtain ⟨xa, ⟨ua, rfl, la1⟩, ea⟩ := hdep 3 24 (by kernel_rfl)
        obtain ⟨xb, ⟨ub, rfl, lb1⟩, eb⟩ := hdep 5 26 (by kernel_rfl)
        refine goes_call (f := 15) (args := #[.agg ua.toArray, .agg ub.toArray]) ?_ ?_
        · simp only [execOp]
          go_simp
        · exact (dsame_any _ (.mk ka ta na ra la aa) B (Nat.le_refl _) ua ub W la1 lb1).mono fun e w' ⟨he, hb⟩ => ⟨_, he, hC.trans (hb.mono hC.size), hb, rfl⟩
      refine AllOps.cons ?_ ?_
      · intro a W hC hB hdep
        obtain ⟨xg, (qg : xg = .bool true), eg⟩ := hdep 1 22 (by kernel_rfl)
        subst qg
        refine ⟨wanted_of (g := 1) (t := 22) rfl rfl (by rw [hB.size]; simp) eg, ?_⟩
        have ea : a.tmps.getD 3 undef = .pointer (some ⟨w.heap.size, 0, none⟩) := hB.off 3 (by kernel_rfl)
        obtain ⟨c0, c1, c2, c3, c4, c5⟩ := row6 (HX5.out W hC)
        refine goes_value (v := .agg #[u0, u1, u2, u3, u4, u5]) ?_ hC rfl
        simp only [execOp, Act.eval, ea]
        go_simp
      refine AllOps.cons ?_ ?_
      · intro a W hC hB hdep
        obtain ⟨xg, (qg : xg = .bool true), eg⟩ := hdep 1 22 (by kernel_rfl)
        subst qg
        refine ⟨wanted_of (g := 1) (t := 22) rfl rfl (by rw [hB.size]; simp) eg, ?_⟩
        have ea : a.tmps.getD 4 undef = .pointer (some ⟨(w.heap.size + 1), 0, none⟩) := hB.off 4 (by kernel_rfl)
        obtain ⟨c0, c1, c2, c3, c4, c5⟩ := row6 (HY5.out W hC)
        refine goes_value (v := .agg #[v0, v1, v2, v3, v4, v5]) ?_ hC rfl
        simp only [execOp, Act.eval, ea]
        go_simp
      refine AllOps.cons ?_ ?_
      · intro a W hC hB hdep
        obtain ⟨xg, (qg : xg = .bool true), eg⟩ := hdep 1 22 (by kernel_rfl)
        subst qg
        refine ⟨wanted_of (g := 1) (t := 22) rfl rfl (by rw [hB.size]; simp) eg, ?_⟩
        obtain ⟨xa, (qa : xa = .agg #[u0, u1, u2, u3, u4, u5]), ea⟩ := hdep 7 28 (by kernel_rfl)
        subst qa
        obtain ⟨xb, (qb : xb = .agg #[v0, v1, v2, v3, v4, v5]), eb⟩ := hdep 8 29 (by kernel_rfl)
        subst qb
        refine goes_call (f := 16) (args := #[.agg #[u0, u1, u2, u3, u4, u5], .agg #[v0, v1, v2, v3, v4, v5]]) ?_ ?_
        · simp only [execOp]
          go_simp
        · exact (rsame_dm _ (.mk ka ta na ra la aa) B (Nat.le_refl _) [u0, u1, u2, u3, u4, u5] [v0, v1, v2, v3, v4, v5] W (HLA5.out W hC) (HLB5.out W hC)).mono fun e w' ⟨he, hb⟩ => ⟨_, he, hC.trans (hb.mono hC.size), hb, rfl⟩
      refine AllOps.cons ?_ ?_
      · intro a W hC hB hdep
        obtain ⟨xg, (qg : xg = .bool true), eg⟩ := hdep 1 22 (by kernel_rfl)
        subst qg
        refine ⟨wanted_of (g := 1) (t := 22) rfl rfl (by rw [hB.size]; simp) eg, ?_⟩
        obtain ⟨xa, (qa : xa = .bool (sameA (.mk ka ta na ra la aa) B)), ea⟩ := hdep 6 27 (by kernel_rfl)
        subst qa
        obtain ⟨xb, (qb : xb = .bool (sameA (.mk ka ta na ra la aa) B)), eb⟩ := hdep 9 30 (by kernel_rfl)
        subst qb
        generalize hs : sameA (.mk ka ta na ra la aa) B = sv at ea eb
        refine goes_value (v := .bool true) ?_ hC rfl
        simp only [execOp, Act.eval, ea, eb]
        cases sv <;> go_simp
      refine AllOps.cons ?_ ?_
      · intro a W hC hB hdep
        refine ⟨rfl, ?_⟩
        obtain ⟨xa, (qa : xa = .bool true), ea⟩ := hdep 1 22 (by kernel_rfl)
        subst qa
        obtain ⟨xb, (qb : xb = .bool true), eb⟩ := hdep 10 31 (by kernel_rfl)
        subst qb
        refine goes_value (v := .bool true) ?_ hC rfl
        simp only [execOp, Act.eval, ea, eb]
        go_simp
      refine AllOps.cons ?_ ?_
      · intro a W hC hB hdep
        refine ⟨rfl, ?_⟩
        obtain ⟨xa, (qa : xa = .bool true), ea⟩ := hdep 11 32 (by kernel_rfl)
        subst qa
        refine goes_value (v := .bool true) ?_ hC rfl
        simp only [execOp, Act.eval, ea]
        go_simp
      refine AllOps.cons ?_ ?_
      · intro a W hC hB hdep
        obtain ⟨xg, (qg : xg = .bool true), eg⟩ := hdep 12 33 (by kernel_rfl)
        subst qg
        refine ⟨wanted_of (g := 12) (t := 33) rfl rfl (by rw [hB.size]; simp) eg, ?_⟩
        have ea : a.tmps.getD 3 undef = .pointer (some ⟨w.heap.size, 0, none⟩) := hB.off 3 (by kernel_rfl)
        obtain ⟨c0, c1, c2, c3, c4, c5⟩ := row6 (HX5.out W hC)
        refine goes_value (v := .agg #[u0, u1, u2, u3, u4, u5]) ?_ hC rfl
        simp only [execOp, Act.eval, ea]
        go_simp
      refine AllOps.cons ?_ ?_
      · intro a W hC hB hdep
        obtain ⟨xg, (qg : xg = .bool true), eg⟩ := hdep 12 33 (by kernel_rfl)
        subst qg
        refine ⟨wanted_of (g := 12) (t := 33) rfl rfl (by rw [hB.size]; simp) eg, ?_⟩
        obtain ⟨xa, (qa : xa = .agg #[u0, u1, u2, u3, u4, u5]), ea⟩ := hdep 13 34 (by kernel_rfl)
        subst qa
        refine goes_call (f := 13) (args := #[.agg #[u0, u1, u2, u3, u4, u5]]) ?_ ?_
        · simp only [execOp]
          go_simp
        · exact (own_dm 1048576 (by omega) _ (.mk ka ta na ra la aa) (Nat.le_refl _) HSA.out _ W (HLA5.out W hC)).mono fun e w' ⟨us, he, hl, hb⟩ => ⟨_, he, hC.trans (hb.mono hC.size), hb, us, rfl, hl.lay⟩
      refine AllOps.cons ?_ ?_
      · intro a W hC hB hdep
        obtain ⟨xg, (qg : xg = .bool true), eg⟩ := hdep 12 33 (by kernel_rfl)
        subst qg
        refine ⟨wanted_of (g := 12) (t := 33) rfl rfl (by rw [hB.size]; simp) eg, ?_⟩
        have ea : a.tmps.getD 7 undef = .pointer (some ⟨w3.heap.size, 0, none⟩) := hB.off 7 (by kernel_rfl)
        obtain ⟨c0, c1, c2, c3, c4, c5⟩ := row6 (HZ5.out W hC)
        refine goes_value (v := .agg #[.int .i64 ka, .string (mkB ta), .bool na, .slice lo ra.length lc, .slice mo la.length mc, .int .i64 atv]) ?_ hC rfl
        simp only [execOp, Act.eval, ea]
        go_simp
      refine AllOps.cons ?_ ?_
      · intro a W hC hB hdep
        obtain ⟨xg, (qg : xg = .bool true), eg⟩ := hdep 12 33 (by kernel_rfl)
        subst qg
        refine ⟨wanted_of (g := 12) (t := 33) rfl rfl (by rw [hB.size]; simp) eg, ?_⟩
        obtain ⟨xa, ⟨ua, rfl, la1⟩, ea⟩ := hdep 14 35 (by kernel_rfl)
        obtain ⟨xb, (qb : xb = .agg #[.int .i64 ka, .string (mkB ta), .bool na, .slice lo ra.length lc, .slice mo la.length mc, .int .i64 atv]), eb⟩ := hdep 15 36 (by kernel_rfl)
        subst qb
        refine goes_call (f := 15) (args := #[.agg ua.toArray, .agg #[.int .i64 ka, .string (mkB ta), .bool na, .slice lo ra.length lc, .slice mo la.length mc, .int .i64 atv]]) ?_ ?_
        · simp only [execOp]
          go_simp
        · exact (dsame_any _ (.mk ka ta na ra la aa) (.mk ka ta na ra la atv) (Nat.le_refl _) ua [.int .i64 ka, .string (mkB ta), .bool na, .slice lo ra.length lc, .slice mo la.length mc, .int .i64 atv] W la1 (HLC5.out W hC)).mono fun e w' ⟨he, hb⟩ => ⟨_, he.trans (by rw [same_at]), hC.trans (hb.mono hC.size), hb, rfl⟩
      refine AllOps.cons ?_ ?_
      · intro a W hC hB hdep
        refine ⟨rfl, ?_⟩
        obtain ⟨xa, (qa : xa = .bool true), ea⟩ := hdep 12 33 (by kernel_rfl)
        subst qa
        obtain ⟨xb, (qb : xb = .bool true), eb⟩ := hdep 16 37 (by kernel_rfl)
        subst qb
        refine goes_value (v := .bool true) ?_ hC rfl
        simp only [execOp, Act.eval, ea, eb]
        go_simp
      refine AllOps.cons ?_ ?_
      · intro a W hC hB hdep
        refine ⟨rfl, ?_⟩
        obtain ⟨xa, (qa : xa = .bool true), ea⟩ := hdep 17 38 (by kernel_rfl)
        subst qa
        refine goes_value (v := .bool true) ?_ hC rfl
        simp only [execOp, Act.eval, ea]
        go_simp
      refine AllOps.cons ?_ ?_
      · intro a W hC hB hdep
        obtain ⟨xg, (qg : xg = .bool true), eg⟩ := hdep 18 39 (by kernel_rfl)
        subst qg
        refine ⟨wanted_of (g := 18) (t := 39) rfl rfl (by rw [hB.size]; simp) eg, ?_⟩
        have ea : a.tmps.getD 4 undef = .pointer (some ⟨(w.heap.size + 1), 0, none⟩) := hB.off 4 (by kernel_rfl)
        obtain ⟨c0, c1, c2, c3, c4, c5⟩ := row6 (HY5.out W hC)
        refine goes_value (v := .agg #[v0, v1, v2, v3, v4, v5]) ?_ hC rfl
        simp only [execOp, Act.eval, ea]
        go_simp
      refine AllOps.cons ?_ ?_
      · intro a W hC hB hdep
        obtain ⟨xg, (qg : xg = .bool true), eg⟩ := hdep 18 39 (by kernel_rfl)
        subst qg
        refine ⟨wanted_of (g := 18) (t := 39) rfl rfl (by rw [hB.size]; simp) eg, ?_⟩
        obtain ⟨xa, (qa : xa = .agg #[v0, v1, v2, v3, v4, v5]), ea⟩ := hdep 19 40 (by kernel_rfl)
        subst qa
        refine goes_call (f := 13) (args := #[.agg #[v0, v1, v2, v3, v4, v5]]) ?_ ?_
        · simp only [execOp]
          go_simp
        · exact (own_dm 1048576 (by omega) _ B (Nat.le_refl _) HSB.out _ W (HLB5.out W hC)).mono fun e w' ⟨us, he, hl, hb⟩ => ⟨_, he, hC.trans (hb.mono hC.size), hb, us, rfl, hl.lay⟩
      refine AllOps.cons ?_ ?_
      · intro a W hC hB hdep
        obtain ⟨xg, (qg : xg = .bool true), eg⟩ := hdep 18 39 (by kernel_rfl)
        subst qg
        refine ⟨wanted_of (g := 18) (t := 39) rfl rfl (by rw [hB.size]; simp) eg, ?_⟩
        have ea : a.tmps.getD 3 undef = .pointer (some ⟨w.heap.size, 0, none⟩) := hB.off 3 (by kernel_rfl)
        obtain ⟨c0, c1, c2, c3, c4, c5⟩ := row6 (HX5.out W hC)
        refine goes_value (v := .agg #[u0, u1, u2, u3, u4, u5]) ?_ hC rfl
        simp only [execOp, Act.eval, ea]
        go_simp
      refine AllOps.cons ?_ ?_
      · intro a W hC hB hdep
        obtain ⟨xg, (qg : xg = .bool true), eg⟩ := hdep 18 39 (by kernel_rfl)
        subst qg
        refine ⟨wanted_of (g := 18) (t := 39) rfl rfl (by rw [hB.size]; simp) eg, ?_⟩
        obtain ⟨xa, (qa : xa = .agg #[u0, u1, u2, u3, u4, u5]), ea⟩ := hdep 21 42 (by kernel_rfl)
        subst qa
        refine goes_call (f := 13) (args := #[.agg #[u0, u1, u2, u3, u4, u5]]) ?_ ?_
        · simp only [execOp]
          go_simp
        · exact (own_dm 1048576 (by omega) _ (.mk ka ta na ra la aa) (Nat.le_refl _) HSA.out _ W (HLA5.out W hC)).mono fun e w' ⟨us, he, hl, hb⟩ => ⟨_, he, hC.trans (hb.mono hC.size), hb, us, rfl, hl.lay⟩
      refine AllOps.cons ?_ ?_
      · intro a W hC hB hdep
        obtain ⟨xg, (qg : xg = .bool true), eg⟩ := hdep 18 39 (by kernel_rfl)
        subst qg
        refine ⟨wanted_of (g := 18) (t := 39) rfl rfl (by rw [hB.size]; simp) eg, ?_⟩
        obtain ⟨xa, ⟨ua, rfl, la1⟩, ea⟩ := hdep 20 41 (by kernel_rfl)
        obtain ⟨xb, ⟨ub, rfl, lb1⟩, eb⟩ := hdep 22 43 (by kernel_rfl)
        refine goes_call (f := 15) (args := #[.agg ua.toArray, .agg ub.toArray]) ?_ ?_
        · simp only [execOp]
          go_simp
        · exact (dsame_any _ B (.mk ka ta na ra la aa) (Nat.le_refl _) ua ub W la1 lb1).mono fun e w' ⟨he, hb⟩ => ⟨_, he, hC.trans (hb.mono hC.size), hb, rfl⟩
      refine AllOps.cons ?_ ?_
      · intro a W hC hB hdep
        obtain ⟨xg, (qg : xg = .bool true), eg⟩ := hdep 18 39 (by kernel_rfl)
        subst qg
        refine ⟨wanted_of (g := 18) (t := 39) rfl rfl (by rw [hB.size]; simp) eg, ?_⟩
        have ea : a.tmps.getD 3 undef = .pointer (some ⟨w.heap.size, 0, none⟩) := hB.off 3 (by kernel_rfl)
        obtain ⟨c0, c1, c2, c3, c4, c5⟩ := row6 (HX5.out W hC)
        refine goes_value (v := .agg #[u0, u1, u2, u3, u4, u5]) ?_ hC rfl
        simp only [execOp, Act.eval, ea]
        go_simp
      refine AllOps.cons ?_ ?_
      · intro a W hC hB hdep
        obtain ⟨xg, (qg : xg = .bool true), eg⟩ := hdep 18 39 (by kernel_rfl)
        subst qg
        refine ⟨wanted_of (g := 18) (t := 39) rfl rfl (by rw [hB.size]; simp) eg, ?_⟩
        obtain ⟨xa, (qa : xa = .agg #[u0, u1, u2, u3, u4, u5]), ea⟩ := hdep 24 45 (by kernel_rfl)
        subst qa
        refine goes_call (f := 13) (args := #[.agg #[u0, u1, u2, u3, u4, u5]]) ?_ ?_
        · simp only [execOp]
          go_simp
        · exact (own_dm 1048576 (by omega) _ (.mk ka ta na ra la aa) (Nat.le_refl _) HSA.out _ W (HLA5.out W hC)).mono fun e w' ⟨us, he, hl, hb⟩ => ⟨_, he, hC.trans (hb.mono hC.size), hb, us, rfl, hl.lay⟩
      refine AllOps.cons ?_ ?_
      · intro a W hC hB hdep
        obtain ⟨xg, (qg : xg = .bool true), eg⟩ := hdep 18 39 (by kernel_rfl)
        subst qg
        refine ⟨wanted_of (g := 18) (t := 39) rfl rfl (by rw [hB.size]; simp) eg, ?_⟩
        have ea : a.tmps.getD 4 undef = .pointer (some ⟨(w.heap.size + 1), 0, none⟩) := hB.off 4 (by kernel_rfl)
        obtain ⟨c0, c1, c2, c3, c4, c5⟩ := row6 (HY5.out W hC)
        refine goes_value (v := .agg #[v0, v1, v2, v3, v4, v5]) ?_ hC rfl
        simp only [execOp, Act.eval, ea]
        go_simp
      refine AllOps.cons ?_ ?_
      · intro a W hC hB hdep
        obtain ⟨xg, (qg : xg = .bool true), eg⟩ := hdep 18 39 (by kernel_rfl)
        subst qg
        refine ⟨wanted_of (g := 18) (t := 39) rfl rfl (by rw [hB.size]; simp) eg, ?_⟩
        obtain ⟨xa, (qa : xa = .agg #[v0, v1, v2, v3, v4, v5]), ea⟩ := hdep 26 47 (by kernel_rfl)
        subst qa
        refine goes_call (f := 13) (args := #[.agg #[v0, v1, v2, v3, v4, v5]]) ?_ ?_
        · simp only [execOp]
          go_simp
        · exact (own_dm 1048576 (by omega) _ B (Nat.le_refl _) HSB.out _ W (HLB5.out W hC)).mono fun e w' ⟨us, he, hl, hb⟩ => ⟨_, he, hC.trans (hb.mono hC.size), hb, us, rfl, hl.lay⟩
      refine AllOps.cons ?_ ?_
      · intro a W hC hB hdep
        obtain ⟨xg, (qg : xg = .bool true), eg⟩ := hdep 18 39 (by kernel_rfl)
        subst qg
        refine ⟨wanted_of (g := 18) (t := 39) rfl rfl (by rw [hB.size]; simp) eg, ?_⟩
        obtain ⟨xa, ⟨ua, rfl, la1⟩, ea⟩ := hdep 25 46 (by kernel_rfl)
        obtain ⟨xb, ⟨ub, rfl, lb1⟩, eb⟩ := hdep 27 48 (by kernel_rfl)
        refine goes_call (f := 15) (args := #[.agg ua.toArray, .agg ub.toArray]) ?_ ?_
        · simp only [execOp]
          go_simp
        · exact (dsame_any _ (.mk ka ta na ra la aa) B (Nat.le_refl _) ua ub W la1 lb1).mono fun e w' ⟨he, hb⟩ => ⟨_, he, hC.trans (hb.mono hC.size), hb, rfl⟩
      refine AllOps.cons ?_ ?_
      · intro a W hC hB hdep
        obtain ⟨xg, (qg : xg = .bool true), eg⟩ := hdep 18 39 (by kernel_rfl)
        subst qg
        refine ⟨wanted_of (g := 18) (t := 39) rfl rfl (by rw [hB.size]; simp) eg, ?_⟩
        obtain ⟨xa, (qa : xa = .bool (sameA B (.mk ka ta na ra la aa))), ea⟩ := hdep 23 44 (by kernel_rfl)
        subst qa
        obtain ⟨xb, (qb : xb = .bool (sameA (.mk ka ta na ra la aa) B)), eb⟩ := hdep 28 49 (by kernel_rfl)
        subst qb
        rw [sameA_comm] at ea
        generalize hs : sameA (.mk ka ta na ra la aa) B = sv at ea eb
        refine goes_value (v := .bool true) ?_ hC rfl
        simp only [execOp, Act.eval, ea, eb]
        cases sv <;> go_simp
      refine AllOps.cons ?_ ?_
      · intro a W hC hB hdep
        refine ⟨rfl, ?_⟩
        obtain ⟨xa, (qa : xa = .bool true), ea⟩ := hdep 18 39 (by kernel_rfl)
        subst qa
        obtain ⟨xb, (qb : xb = .bool true), eb⟩ := hdep 29 50 (by kernel_rfl)
        subst qb
        refine goes_value (v := .bool true) ?_ hC rfl
        simp only [execOp, Act.eval, ea, eb]
        go_simp
      refine AllOps.cons ?_ ?_
      · intro a W hC hB hdep
        refine ⟨rfl, ?_⟩
        obtain ⟨xa, (qa : xa = .bool true), ea⟩ := hdep 30 51 (by kernel_rfl)
        subst qa
        refine goes_value (v := .bool true) ?_ hC rfl
        simp only [execOp, Act.eval, ea]
        go_simp
      exact trivial
      · intro a W hC hB hall
        obtain ⟨x, (k : x = .bool true), e⟩ := hall 31 _ rfl
        subst k
        have e6 := e 6 rfl
        refine (‹∀ (a : Act) (w : World), Code.wp Tryz.prog Code.ret _ a w → _›) a W ?_
        refine wp_ret ?_
        refine bodyPost_ret (results_tmp rfl _ _ _) hB.defers ?_
        exact ⟨congrArg Ending.returned e6, HB5.out.trans (hC.mono HB5.out.size)⟩
      -- END
end Go.Proofs.YtpahfhjgcflifaaGreatDoor
