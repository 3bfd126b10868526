/- A piece of syntax in which no other stands: what it weighs, its copy. -/
import Derived.Test.YtioidaojnbenbaaStMake
import Derived.Deep.QuietTactic
import Derived.BigQuiet
import Derived.Deep.Cut
import Derived.Deep.RegionLaw
import Derived.Deep.AppendLies
namespace Go.Proofs.Ytioidaojnbenbaa
open Go.RowKit

/-- Its eight cells. -/
def pxL (p : Px) (lv av mv sv : Value) : List Value := [.int .i64 p.k, .string p.t, .bool p.ng, lv, av, .int .i64 p.a, mv, sv]
theorem row8 {W : World} {g : Nat} {a0 a1 a2 a3 a4 a5 a6 a7 : Value} {e : TypeId} (h : W.heap[g]? = some (.cells #[a0, a1, a2, a3, a4, a5, a6, a7] e (0, 0))) : W.cell? ⟨g, 0, none⟩ = some a0 ∧ W.cell? ⟨g, 1, none⟩ = some a1 ∧ W.cell? ⟨g, 2, none⟩ = some a2 ∧ W.cell? ⟨g, 3, none⟩ = some a3 ∧ W.cell? ⟨g, 4, none⟩ = some a4 ∧ W.cell? ⟨g, 5, none⟩ = some a5 ∧ W.cell? ⟨g, 6, none⟩ = some a6 ∧ W.cell? ⟨g, 7, none⟩ = some a7 :=
  ⟨cell_heap h 0, cell_heap h 1, cell_heap h 2, cell_heap h 3, cell_heap h 4, cell_heap h 5, cell_heap h 6, cell_heap h 7⟩
theorem stlastx_any (g n c : Nat) (x : Value) (w : World) (hx : w.cell? ⟨g, n, none⟩ = some x) (hx1 : ∃ o l k, x = .slice o l k) (hn : n < 1000) (hc : n < c) :
    Calls Try.prog 60 #[.slice (some ⟨g, 0, none⟩) (n + 1) c] w fun e w' => e = .returned (.tuple #[x, .slice (some ⟨g, 0, none⟩) n c]) ∧ Below w.heap.size w w' := by
  obtain ⟨o, l, k, rfl⟩ := hx1
  have hw : ((n + 1 : Nat) : Int) - 1 = (n : Nat) := by omega
  go_enter Try.func60, Try.ntmps60
  go_wp2_with fail
  go_quiet (fail)
  go_wp2_with fail
  refine bodyPost_ret (v := .tuple #[.slice o l k, .slice (some ⟨g, 0, none⟩) n c]) (by simp [results, Try.results60, go_sem]) rfl ⟨rfl, ?_⟩
  exact below_drewN (Below.refl _ _) _
def pxW (p : Px) : Nat := 2 + p.ms.length + p.sb.length + p.lm.length
theorem infoSl : (Try.prog.info? 47).map (fun i => (i.zero, i.size, i.bytes)) = some (some (.slice none 0 0), 1, 24) := by kernel_rfl

set_option maxRecDepth 100000 in
set_option maxHeartbeats 4000000 in
theorem stweigh_any (p : Px) (lo ao mo so : Option Addr) (ll lc ac ml mc sl sc : Nat) (r : Int) (w : World) (hl : ll = p.lm.length) (hm : ml = p.ms.length) (hs : sl = p.sb.length) (hll : ll ≤ 2000000) (hml : ml ≤ 2000000) (hsl : sl ≤ 2000000) :
    Calls Try.prog 48 #[.agg #[.int .i64 p.k, .string p.t, .bool p.ng, .slice lo ll lc, .slice ao 0 ac, .int .i64 p.a, .slice mo ml mc, .slice so sl sc], .int .i64 r] w fun e w' =>
      (((pxW p : Nat) : Int) ≤ r ∧ e = .returned (.tuple #[.int .i64 (pxW p : Nat), .bool true]) ∨ r < ((pxW p : Nat) : Int) ∧ e = .returned (.tuple #[.int .i64 0, .bool false])) ∧ Below w.heap.size w w' := by
  obtain ⟨i0, hi, hz0, hz1, hz2⟩ := info_parts infoSl
  have hpc : pxW p = 2 + ml + sl + ll := by unfold pxW; rw [hl, hm, hs]
  rw [hpc]
  clear hl hm hs hpc
  obtain ⟨pk, pt, pn, _, pa, _, _⟩ := p
  simp only
  have hb3 := below3 w (.cells #[.int .i64 pk, .string pt, .bool pn, .slice lo ll lc, .slice ao 0 ac, .int .i64 pa, .slice mo ml mc, .slice so sl sc] 50) (.cells #[.int .i64 pk, .string pt, .bool pn, .slice lo ll lc, .slice ao 0 ac, .int .i64 pa, .slice mo ml mc, .slice so sl sc] 50) (.cells #[.slice (some ⟨w.heap.size + 1, 0, none⟩) 1 1] 47)
  obtain ⟨⟨n0, n1⟩, n2⟩ := @news3 w (.cells #[.int .i64 pk, .string pt, .bool pn, .slice lo ll lc, .slice ao 0 ac, .int .i64 pa, .slice mo ml mc, .slice so sl sc] 50) (.cells #[.int .i64 pk, .string pt, .bool pn, .slice lo ll lc, .slice ao 0 ac, .int .i64 pa, .slice mo ml mc, .slice so sl sc] 50) (.cells #[.slice (some ⟨w.heap.size + 1, 0, none⟩) 1 1] 47)
  have HB3 := Lib.hid hb3
  have HN1 := Lib.hid n1
  have HN2 := Lib.hid n2
  clear hb3 n0 n1 n2
  go_enter Try.func48, Try.ntmps48
  go_upto_region 3 with fail
  generalize ((w.alloc (.cells #[.int .i64 pk, .string pt, .bool pn, .slice lo ll lc, .slice ao 0 ac, .int .i64 pa, .slice mo ml mc, .slice so sl sc] 50)).alloc (.cells #[.int .i64 pk, .string pt, .bool pn, .slice lo ll lc, .slice ao 0 ac, .int .i64 pa, .slice mo ml mc, .slice so sl sc] 50)).alloc (.cells #[.slice (some ⟨w.heap.size + 1, 0, none⟩) 1 1] 47) = w1 at *
  refine wp_loop_rounds 3 ?_
  rw [rounds_succ]
  go_wp2_with fail
  refine (stlastx_any (w.heap.size + 1 + 1) 0 1 (.slice (some ⟨w.heap.size + 1, 0, none⟩) 1 1) w1 (cell_heap HN2.out 0) ⟨_, _, _, rfl⟩ (by omega) (by omega)).mono ?_
  rintro e w2 ⟨rfl, hb2⟩
  have HB2 := Lib.hid (HB3.out.trans (hb2.mono HB3.out.size))
  have M1 := Lib.hid ((hb2.block _ (Array.getElem?_eq_some_iff.1 HN1.out).1).trans HN1.out)
  have M2 := Lib.hid ((hb2.block _ (Array.getElem?_eq_some_iff.1 HN2.out).1).trans HN2.out)
  clear hb2 HB3 HN1 HN2
  obtain ⟨c0, c1, c2, c3, c4, c5, c6, c7⟩ := row8 M1.out
  go_wp2_with fail
  refine wp_loop_rounds 2 ?_
  rw [rounds_succ]
  go_wp2_with fail
  go_quiet (fail)
  have HB3 := Lib.hid (below_drewN HB2.out nq)
  have K2 : Hid ((w2.drewN nq).heap[w.heap.size + 1 + 1]? = some (.cells #[.slice (some ⟨w.heap.size + 1, 0, none⟩) 1 1] 47 (0, 0))) := Lib.hid M2.out
  have K1 : Hid ((w2.drewN nq).heap[w.heap.size + 1]? = some (.cells #[.int .i64 pk, .string pt, .bool pn, .slice lo ll lc, .slice ao 0 ac, .int .i64 pa, .slice mo ml mc, .slice so sl sc] 50 (0, 0))) := Lib.hid M1.out
  clear c0 c1 c2 c3 c4 c5 c6 c7 M1 M2 HB2
  generalize w2.drewN nq = w3 at *
  by_cases hr : 1 + (1 + (ml : Int) + (sl : Int) + (ll : Int)) ≤ r
  · have hr2 : ¬ (1 + (1 + (ml : Int) + (sl : Int) + (ll : Int)) > r) := by omega
    obtain ⟨c0, c1, c2, c3, c4, c5, c6, c7⟩ := row8 K1.out
    have HOW : Hid ((w3.alloc (.cells #[.slice ao 0 ac] 47)).ownsRow w.heap.size 47 1 (.slice (some ⟨w.heap.size + 1 + 1, 0, none⟩) 0 1) 0 []) := Lib.hid ⟨rfl, .inr ⟨w.heap.size + 1 + 1, 1, #[.slice (some ⟨w.heap.size + 1, 0, none⟩) 1 1], rfl, by omega, (Below.heap_alloc _ _ _ (Array.getElem?_eq_some_iff.1 K2.out).1).trans K2.out, by omega, by unfold maxLen; omega, rfl, rfl⟩⟩
    have HRV : Hid (RowV (w3.alloc (.cells #[.slice ao 0 ac] 47)) (.slice (some ⟨w3.heap.size, 0, none⟩) 1 1) 1 1 [.slice ao 0 ac]) := Lib.hid ⟨rfl, by unfold maxLen; omega, _, _, rfl, Nat.le_refl _, .inr ⟨w3.heap.size, 0, rfl, by simp, fun j u hu => by
      rw [cell_of_row _ w3.heap.size (0 + j) _ _ (0, 0) (heap_alloc_new w3 _), Nat.zero_add]
      simpa using hu⟩⟩
    have HB4 := Lib.hid (HB3.out.alloc HB3.out.size (.cells #[.slice ao 0 ac] 47))
    go_wp2_with (at_builtin; (refine wpList_append_row _ rfl _ _ 104 rfl w.heap.size 47 i0 (.slice none 0 0) 1 24 Try.underlying104 hi hz0 hz1 hz2 rfl (by decide) _ 0 [] rfl HOW.out _ 1 [.slice ao 0 ac] rfl HRV.out (by intro u hu; simp only [List.mem_singleton] at hu; subst hu; rfl) (by unfold maxLen; omega) (by omega) HB4.out.size ?_); intro v5 w5 hown5 hgrow5 hmv5)
    rw [Nat.zero_add, List.nil_append] at hown5
    obtain ⟨g5, k5, rfl, hge5, hlt5⟩ := hown5.form (by omega)
    have HC5 : Hid (w5.cell? ⟨g5, 0, none⟩ = some (.slice ao 0 ac)) := Lib.hid (by
      have := hown5.cells (g := g5) rfl 0 (.slice ao 0 ac) rfl
      rw [Addr.add_mid] at this
      exact this)
    have hk5 : 1 ≤ k5 := by
      rcases hown5.2 with ⟨h1, _⟩ | ⟨_, _, _, h1, _, _, h2, _⟩
      · cases h1
      · injection h1 with _ _ h3; omega
    have HB5 := Lib.hid (HB4.out.grown hgrow5 HB4.out.size (fun q hq => (HOW.out.lt q hq).1))
    clear c0 c1 c2 c3 c4 c5 c6 c7 hown5 hgrow5 hmv5 HOW HRV HB4 K1 K2 HB3
    rw [rounds_succ]
    go_wp2_with fail
    rw [rounds_succ]
    go_wp2_with fail
    refine (stlastx_any g5 0 k5 (.slice ao 0 ac) w5 HC5.out ⟨_, _, _, rfl⟩ (by omega) (by omega)).mono ?_
    rintro e w6 ⟨rfl, hb6⟩
    have HB6 := Lib.hid (HB5.out.trans (hb6.mono HB5.out.size))
    clear hb6
    go_wp2_with fail
    refine wp_loop_rounds 1 ?_
    rw [rounds_succ]
    go_wp2_with fail
    rw [rounds_succ]
    go_wp2_with fail
    refine bodyPost_ret (v := .tuple #[.int .i64 (1 + (1 + (ml : Int) + (sl : Int) + (ll : Int))), .bool true]) (by simp [results, Try.results48, go_sem]) rfl ?_
    have hsum : 1 + (1 + (ml : Int) + (sl : Int) + (ll : Int)) = ((2 + ml + sl + ll : Nat) : Int) := by omega
    rw [hsum]
    exact ⟨.inl ⟨by omega, rfl⟩, HB6.out⟩
  · have hr2 : 1 + (1 + (ml : Int) + (sl : Int) + (ll : Int)) > r := by omega
    go_wp2_with fail
    refine bodyPost_ret (v := .tuple #[.int .i64 0, .bool false]) (by simp [results, Try.results48, go_sem]) rfl ?_
    exact ⟨.inr ⟨by omega, rfl⟩, HB3.out⟩
end Go.Proofs.Ytioidaojnbenbaa
