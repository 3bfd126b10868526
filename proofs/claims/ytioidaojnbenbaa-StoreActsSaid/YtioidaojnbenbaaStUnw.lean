/- Unwrap of an object that is a piece of syntax. -/
import Derived.Test.YtioidaojnbenbaaStCopied
import Derived.Test.YtioidaojnbenbaaStGet
import Derived.Test.YtioidaojnbenbaaStMake
namespace Go.Proofs.Ytioidaojnbenbaa
open Go.RowKit

theorem news2v {w : World} {a b : Obj} : ((w.alloc a).alloc b).heap[w.heap.size]? = some a := by
  rw [Below.heap_alloc _ _ _ (by simp)]; exact heap_alloc_new w _
theorem news2u {w : World} {a b : Obj} : ((w.alloc a).alloc b).heap[w.heap.size + 1]? = some b := by
  have := heap_alloc_new (w.alloc a) b
  simpa using this
/-- What lies behind a piece that was answered: rows of its own. -/
def PxOwn (w0 w : World) (p : Px) (lv xv mv sv : Value) : Prop :=
  w.ownsRow w0.heap.size 108 1 lv p.lm.length (ucs p.lm) ∧ RowV w xv 0 8 [] ∧ w.ownsRow w0.heap.size 3 1 mv p.ms.length (ics .i64 p.ms) ∧ w.ownsRow w0.heap.size 3 1 sv p.sb.length (ics .i64 p.sb)

set_option maxRecDepth 100000 in
set_option maxHeartbeats 4000000 in
theorem stunwrap_ok (g : Nat) (R : Nat → Nat) (s : St) (v : Int × Int) (o : Ob) (p : Px) (w : World) (h : StW w g R s) (ho : s.obj v = some o) (hk : o.k = 10) (hp : o.x = some p) (ht : p.t.size ≤ 281474976710656) (hll : p.lm.length ≤ 2000000) (hml : p.ms.length ≤ 2000000) (hsl : p.sb.length ≤ 2000000) :
    Calls Try.prog 19 #[.pointer (some ⟨g, 0, none⟩), vV v] w fun e w' => (∃ lv xo xc mv sv, e = .returned (.tuple #[.agg #[.int .i64 p.k, .string p.t, .bool p.ng, lv, .slice xo 0 xc, .int .i64 p.a, mv, sv], .int .i64 0]) ∧ PxOwn w w' p lv (.slice xo 0 xc) mv sv) ∧ Below w.heap.size w w' := by
  obtain ⟨ms, ov, nv, mv, hm⟩ := h
  have HM := Lib.hid hm
  have HLN := Lib.hid (And.intro ht (And.intro hll (And.intro hml hsl)))
  have HOB := Lib.hid ho
  have HK := Lib.hid hk
  have HP := Lib.hid hp
  have HB1 := Lib.hid (below2 w (.cells #[.int .i64 v.1, .int .i64 v.2] 35) (.cells #[.int .i64 0, .string ⟨#[]⟩, .bool false, .slice none 0 0, .slice none 0 0, .int .i64 0, .slice none 0 0, .slice none 0 0] 50))
  have HN1 := Lib.hid (@news2v w (.cells #[.int .i64 v.1, .int .i64 v.2] 35) (.cells #[.int .i64 0, .string ⟨#[]⟩, .bool false, .slice none 0 0, .slice none 0 0, .int .i64 0, .slice none 0 0, .slice none 0 0] 50))
  have HN2 := Lib.hid (@news2u w (.cells #[.int .i64 v.1, .int .i64 v.2] 35) (.cells #[.int .i64 0, .string ⟨#[]⟩, .bool false, .slice none 0 0, .slice none 0 0, .int .i64 0, .slice none 0 0, .slice none 0 0] 50))
  have hgl := hm.glt
  clear hm ht hll hml hsl hk hp ho
  show Calls Try.prog 19 #[.pointer (some ⟨g, 0, none⟩), .agg #[.int .i64 v.1, .int .i64 v.2]] w _
  go_enter Try.func19, Try.ntmps19
  go_upto_region 3 with fail
  generalize (w.alloc (.cells #[.int .i64 v.1, .int .i64 v.2] 35)).alloc (.cells #[.int .i64 0, .string ⟨#[]⟩, .bool false, .slice none 0 0, .slice none 0 0, .int .i64 0, .slice none 0 0, .slice none 0 0] 50) = w1 at *
  have R0 := Lib.hid HN1.out
  have R1 := Lib.hid HN2.out
  clear HN1 HN2
  obtain ⟨p0, p1, _, _⟩ := row2 R0.out
  go_wp2_with fail
  refine (stfind_any g R s ms ov nv mv v _ (HM.out.below HB1.out)).mono ?_
  rintro e w2 ⟨hb2, h | ⟨b, cap, ho, hov, rfl⟩⟩
  · obtain ⟨hn, _⟩ := h
    rw [HOB.out] at hn
    cases hn
  · have HB2 := Lib.hid (HB1.out.trans (hb2.mono HB1.out.size))
    have S1 := Lib.hid ((hb2.block _ (Array.getElem?_eq_some_iff.1 R1.out).1).trans R1.out)
    clear hb2 R0 R1 p0 p1
    obtain ⟨k, hk, rfl, hok⟩ := HM.out.objIs ho
    have hM2 := HM.out.below HB2.out
    obtain ⟨b', cap', e', _, _, _, q0, _, _, q3⟩ := hM2.objAt hk
    have hoo : (ms[k]'hk).o = o := by have := HOB.out; rw [hok] at this; exact Option.some.inj this
    rw [hov] at e'
    simp only [Value.slice.injEq, Option.some.injEq, Addr.mk.injEq, and_true] at e'
    obtain ⟨rfl, _, rfl⟩ := e'
    have hpr := hM2.prow k hk
    rw [hoo, HP.out] at hpr
    rw [hoo, HK.out] at q0
    obtain ⟨pb, lv, av, mw, sv, hpv, _, hpc, hlv, _, hav, hmv, _, hsv, _⟩ := hpr
    rw [hpv] at q3
    obtain ⟨ao, ac, rfl⟩ : ∃ a c, av = .slice a 0 c := by obtain ⟨_, _, a, c, e, _⟩ := hav; exact ⟨a, c, e⟩
    have HL := Lib.hid hlv
    have HA := Lib.hid hav
    have HV := Lib.hid hmv
    have HS := Lib.hid hsv
    obtain ⟨c0, c1, c2, c3, c4, c5, c6, c7⟩ := row8 hpc
    simp only [Int.toNat_natCast]
    clear ho hok hov hM2 hoo hlv hav hmv hsv hpc hpv
    go_wp2_with fail
    refine (stcopied_any p _ _ _ ao ac w2 HLN.out.1 HL.out HA.out HV.out HS.out HLN.out.2.1 HLN.out.2.2.1 HLN.out.2.2.2).mono ?_
    rintro e w3 ⟨⟨lv2, o2, k2, mv2, sv2, rfl, hol, hox, hom, hos⟩, hb3⟩
    obtain ⟨l2, lc2, rfl⟩ := own_dslice hol
    obtain ⟨m2, mc2, rfl⟩ := own_dslice hom
    obtain ⟨s2, sc2, rfl⟩ := own_dslice hos
    have HB3 := Lib.hid (HB2.out.trans (hb3.mono HB2.out.size))
    have T1 := Lib.hid ((hb3.block _ (Array.getElem?_eq_some_iff.1 S1.out).1).trans S1.out)
    have hbs : w.heap.size ≤ w2.heap.size := HB2.out.size
    have HOL := Lib.hid hol
    have HOX := Lib.hid hox
    have HOM := Lib.hid hom
    have HOS := Lib.hid hos
    clear hb3 hol hox hom hos S1 HB2 c0 c1 c2 c3 c4 c5 c6 c7 q0 q3
    obtain ⟨d0, d1, d2, d3, d4, d5, d6, d7⟩ := row8 T1.out
    have zf := fun j => frozen_heap T1.out j
    have zf0 := zf 0
    have zf1 := zf 1
    have zf2 := zf 2
    have zf3 := zf 3
    have zf4 := zf 4
    have zf5 := zf 5
    have zf6 := zf 6
    have zf7 := zf 7
    go_wp2_with fail
    have hfin := put8 T1.out (.int .i64 p.k) (.string p.t) (.bool p.ng) (.slice l2 p.lm.length lc2) (.slice o2 0 k2) (.int .i64 p.a) (.slice m2 p.ms.length mc2) (.slice s2 p.sb.length sc2)
    have hk8 := keep8 (P := fun b => b ≠ w.heap.size + 1) w3 (w.heap.size + 1) (fun h => h rfl) (.int .i64 p.k) (.string p.t) (.bool p.ng) (.slice l2 p.lm.length lc2) (.slice o2 0 k2) (.int .i64 p.a) (.slice m2 p.ms.length mc2) (.slice s2 p.sb.length sc2)
    have hbl := below8 HB3.out (show w.heap.size ≤ w.heap.size + 1 by omega) (.int .i64 p.k) (.string p.t) (.bool p.ng) (.slice l2 p.lm.length lc2) (.slice o2 0 k2) (.int .i64 p.a) (.slice m2 p.ms.length mc2) (.slice s2 p.sb.length sc2)
    have L8 := ownsRow_keep HOL.out hk8 (own_far HOL.out T1.out (by decide))
    have L13 := ownsRow_keep HOM.out hk8 (own_far HOM.out T1.out (by decide))
    have L18 := ownsRow_keep HOS.out hk8 (own_far HOS.out T1.out (by decide))
    have LRO := HOX.out.move (P := fun _ => False) (fun _ h => absurd rfl h) ⟨hk8.1, fun _ _ h => h.elim⟩
    obtain ⟨g0, g1, g2, g3, g4, g5', g6, g7⟩ := row8 hfin
    refine bodyPost_ret (v := .tuple #[.agg #[.int .i64 p.k, .string p.t, .bool p.ng, .slice l2 p.lm.length lc2, .slice o2 0 k2, .int .i64 p.a, .slice m2 p.ms.length mc2, .slice s2 p.sb.length sc2], .int .i64 0]) (by simp [results, Try.results19, go_sem, g0, g1, g2, g3, g4, g5', g6, g7]) rfl ?_
    exact ⟨⟨_, _, _, _, _, rfl, ownsRow_base L8 hbs, LRO, ownsRow_base L13 hbs, ownsRow_base L18 hbs⟩, hbl⟩
end Go.Proofs.Ytioidaojnbenbaa
