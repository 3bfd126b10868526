/- An object's copy. -/
import Derived.Test.YtioidaojnbenbaaStUnw
namespace Go.Proofs.Ytioidaojnbenbaa
open Go.RowKit

theorem row4 {W : World} {g : Nat} {a0 a1 a2 a3 : Value} {e : TypeId} (h : W.heap[g]? = some (.cells #[a0, a1, a2, a3] e (0, 0))) : W.cell? ⟨g, 0, none⟩ = some a0 ∧ W.cell? ⟨g, 1, none⟩ = some a1 ∧ W.cell? ⟨g, 2, none⟩ = some a2 ∧ W.cell? ⟨g, 3, none⟩ = some a3 ∧ W.frozen? ⟨g, 0, none⟩ = false ∧ W.frozen? ⟨g, 1, none⟩ = false ∧ W.frozen? ⟨g, 2, none⟩ = false ∧ W.frozen? ⟨g, 3, none⟩ = false :=
  ⟨cell_heap h 0, cell_heap h 1, cell_heap h 2, cell_heap h 3, frozen_heap h 0, frozen_heap h 1, frozen_heap h 2, frozen_heap h 3⟩
theorem put4 {W : World} {g : Nat} {a0 a1 a2 a3 : Value} {e : TypeId} (h : W.heap[g]? = some (.cells #[a0, a1, a2, a3] e (0, 0))) (b0 b1 b2 b3 : Value) : ((((W.setCell ⟨g, 0, none⟩ b0).setCell ⟨g, 1, none⟩ b1).setCell ⟨g, 2, none⟩ b2).setCell ⟨g, 3, none⟩ b3).heap[g]? = some (.cells #[b0, b1, b2, b3] e (0, 0)) :=
  (rowSet (rowSet (rowSet (rowSet h 0 _) 1 _) 2 _) 3 _).trans (by simp)
theorem below4 {B : Nat} {w W : World} (h : Below B w W) {g : Nat} (hg : B ≤ g) (b0 b1 b2 b3 : Value) : Below B w ((((W.setCell ⟨g, 0, none⟩ b0).setCell ⟨g, 1, none⟩ b1).setCell ⟨g, 2, none⟩ b2).setCell ⟨g, 3, none⟩ b3) :=
  (((h.setCell hg _).setCell hg _).setCell hg _).setCell hg _
theorem keep4 {P : Nat → Prop} (W : World) (g : Nat) (hp : ¬ P g) (b0 b1 b2 b3 : Value) : Keeps P W ((((W.setCell ⟨g, 0, none⟩ b0).setCell ⟨g, 1, none⟩ b1).setCell ⟨g, 2, none⟩ b2).setCell ⟨g, 3, none⟩ b3) :=
  ((((Keeps.refl P W).set (p := ⟨g, 0, none⟩) hp _).set (p := ⟨g, 1, none⟩) hp _).set (p := ⟨g, 2, none⟩) hp _).set (p := ⟨g, 3, none⟩) hp _
/-- What a piece must be to be copied. -/
def PxSm (x : Option Px) : Prop := ∀ p, x = some p → p.t.size ≤ 281474976710656 ∧ p.lm.length ≤ 2000000 ∧ p.ms.length ≤ 2000000 ∧ p.sb.length ≤ 2000000

set_option maxRecDepth 100000 in
set_option maxHeartbeats 4000000 in
theorem stocopied_any (k : Int) (c : Nat) (l : List (Int × Int)) (sv pv : Value) (x : Option Px) (P : Nat → Prop) (w : World) (hr : RowV w sv l.length 2 (vcs l)) (hl : l.length ≤ 2000000) (hp : PxAt P w pv x) (hx : PxSm x) :
    Calls Try.prog 25 #[.agg #[.int .i64 k, .int .i64 (c : Nat), sv, pv]] w fun e w' => ∃ sv' pv' m, e = .returned (.agg #[.int .i64 k, .int .i64 (c : Nat), sv', pv']) ∧ w'.ownsRow w.heap.size 35 2 sv' l.length (vcs l) ∧ (∀ b, sv'.ownBlock = some b → b < m) ∧ w.heap.size ≤ m ∧ PxAt (fun b => m ≤ b ∧ b < w'.heap.size) w' pv' x ∧ Below w.heap.size w w' := by
  have HR := Lib.hid hr
  have HP := Lib.hid hp
  have HX := Lib.hid hx
  obtain ⟨so, sc, rfl⟩ : ∃ a c, sv = .slice a l.length c := by obtain ⟨_, _, a, c, e, _⟩ := hr; exact ⟨a, c, e⟩
  obtain ⟨po, rfl⟩ : ∃ po, pv = .pointer po := by
    cases x with
    | none => exact ⟨_, hp⟩
    | some p => obtain ⟨b, _, _, _, _, e, _⟩ := hp; exact ⟨_, e⟩
  clear hr hp hx
  have HB1 := Lib.hid (below2 w (.cells #[.int .i64 k, .int .i64 (c : Nat), .slice so l.length sc, .pointer po] 73) (.cells #[.int .i64 0, .int .i64 0, .slice none 0 0, .pointer none] 73))
  have HN1 := Lib.hid (@news2v w (.cells #[.int .i64 k, .int .i64 (c : Nat), .slice so l.length sc, .pointer po] 73) (.cells #[.int .i64 0, .int .i64 0, .slice none 0 0, .pointer none] 73))
  have HN2 := Lib.hid (@news2u w (.cells #[.int .i64 k, .int .i64 (c : Nat), .slice so l.length sc, .pointer po] 73) (.cells #[.int .i64 0, .int .i64 0, .slice none 0 0, .pointer none] 73))
  go_enter Try.func25, Try.ntmps25
  go_upto_region 1 with fail
  generalize (w.alloc (.cells #[.int .i64 k, .int .i64 (c : Nat), .slice so l.length sc, .pointer po] 73)).alloc (.cells #[.int .i64 0, .int .i64 0, .slice none 0 0, .pointer none] 73) = w1 at *
  have R0 := Lib.hid HN1.out
  have R1 := Lib.hid HN2.out
  clear HN1 HN2
  obtain ⟨c0, c1, c2, c3, _, _, _, _⟩ := row4 R0.out
  go_wp2_with fail
  refine (stown_any _ l w1 (HR.out.below HB1.out) hl).mono ?_
  rintro e w2 ⟨v2, rfl, ho2, hb2⟩
  have HB2 := Lib.hid (HB1.out.trans (hb2.mono HB1.out.size))
  have S0 := Lib.hid ((hb2.block _ (Array.getElem?_eq_some_iff.1 R0.out).1).trans R0.out)
  have S1 := Lib.hid ((hb2.block _ (Array.getElem?_eq_some_iff.1 R1.out).1).trans R1.out)
  have HSZ : Hid (w.heap.size + 2 ≤ w1.heap.size ∧ w1.heap.size ≤ w2.heap.size) := Lib.hid ⟨(Array.getElem?_eq_some_iff.1 R1.out).1, hb2.size⟩
  obtain ⟨s2, sc2, rfl⟩ := own_dslice ho2
  clear hb2 R0 R1 HB1 c0 c1 c2 c3
  have hs3 : (w2.setCell ⟨w.heap.size, 2, none⟩ (.slice s2 l.length sc2)).heap[w.heap.size]? = some (.cells #[.int .i64 k, .int .i64 (c : Nat), .slice s2 l.length sc2, .pointer po] 73 (0, 0)) := (rowSet S0.out 2 _).trans (by simp)
  have hne : w.heap.size + 1 ≠ w.heap.size := by omega
  have hs4 : (w2.setCell ⟨w.heap.size, 2, none⟩ (.slice s2 l.length sc2)).heap[w.heap.size + 1]? = some (.cells #[.int .i64 0, .int .i64 0, .slice none 0 0, .pointer none] 73 (0, 0)) := (Below.heap_setCell _ _ _ _ hne).trans S1.out
  have ho3 := own_set ho2 S0.out (by decide) 2 (.slice s2 l.length sc2)
  have hb3 : Below w.heap.size w (w2.setCell ⟨w.heap.size, 2, none⟩ (.slice s2 l.length sc2)) := HB2.out.setCell (Nat.le_refl _) _
  have hz3 : (w2.setCell ⟨w.heap.size, 2, none⟩ (.slice s2 l.length sc2)).heap.size = w2.heap.size := by simp
  have U0 := Lib.hid hs3
  have U1 := Lib.hid hs4
  have HO := Lib.hid ho3
  have HB3 := Lib.hid hb3
  have HZ3 := Lib.hid hz3
  have HOL : Hid (∀ b, (Value.slice s2 l.length sc2).ownBlock = some b → b < w2.heap.size) := Lib.hid fun b hb => (ho2.lt b hb).2
  obtain ⟨c0, c1, c2, c3, z0, z1, z2, z3⟩ := row4 S0.out
  clear hs3 hs4 ho3 hb3 hz3 ho2
  go_upto_region 2 with fail
  generalize w2.setCell ⟨w.heap.size, 2, none⟩ (.slice s2 l.length sc2) = w3 at *
  clear c0 c1 c2 c3 z0 z1 z2 z3 S0 S1 HB2
  obtain ⟨c0, c1, c2, c3, z0, z1, z2, z3⟩ := row4 U0.out
  cases x with
  | none =>
    have hpo : po = none := by have := HP.out; unfold PxAt at this; simpa using this
    subst hpo
    obtain ⟨_, _, _, _, f0, f1, f2, f3⟩ := row4 U1.out
    go_wp2_with fail
    have hfin := put4 U1.out (.int .i64 k) (.int .i64 (c : Nat)) (.slice s2 l.length sc2) (.pointer none)
    have hk4 := keep4 (P := fun b => b ≠ w.heap.size + 1) w3 (w.heap.size + 1) (fun h => h rfl) (.int .i64 k) (.int .i64 (c : Nat)) (.slice s2 l.length sc2) (.pointer none)
    have hbl := below4 HB3.out (show w.heap.size ≤ w.heap.size + 1 by omega) (.int .i64 k) (.int .i64 (c : Nat)) (.slice s2 l.length sc2) (.pointer none)
    have hol := ownsRow_keep HO.out hk4 (own_far HO.out U1.out (by decide))
    obtain ⟨g0, g1, g2, g3, _⟩ := row4 hfin
    have hsz := HSZ.out
    refine bodyPost_ret (v := .agg #[.int .i64 k, .int .i64 (c : Nat), .slice s2 l.length sc2, .pointer none]) (by simp [results, Try.results25, go_sem, g0, g1, g2, g3]) rfl ?_
    exact ⟨_, _, w2.heap.size, rfl, ownsRow_base hol (by omega), HOL.out, by omega, rfl, hbl⟩
  | some p =>
    obtain ⟨pb, lv, av, mw, sv, hpv, _, hpc, hlv, _, hav, hmv, _, hsv, _⟩ := (HP.out.move (P := P) (Keeps.of_below HB3.out) : PxAt P w3 (.pointer po) (some p))
    obtain ⟨hx1, hx2, hx3, hx4⟩ := HX.out p rfl
    obtain ⟨ao, ac, rfl⟩ : ∃ a c, av = .slice a 0 c := by obtain ⟨_, _, a, c, e, _⟩ := hav; exact ⟨a, c, e⟩
    have HL := Lib.hid hlv
    have HA := Lib.hid hav
    have HV := Lib.hid hmv
    have HS := Lib.hid hsv
    simp only [Value.pointer.injEq] at hpv
    subst hpv
    obtain ⟨d0, d1, d2, d3, d4, d5, d6, d7⟩ := row8 hpc
    clear hlv hav hmv hsv hpc
    go_wp2_with fail
    refine (stcopied_any p _ _ _ ao ac w3 hx1 HL.out HA.out HV.out HS.out hx2 hx3 hx4).mono ?_
    rintro e w4 ⟨⟨lv2, o2, k2, mv2, sv2, rfl, hol, hox, hom, hos⟩, hb4⟩
    obtain ⟨l2, lc2, rfl⟩ := own_dslice hol
    obtain ⟨m2, mc2, rfl⟩ := own_dslice hom
    obtain ⟨t2, tc2, rfl⟩ := own_dslice hos
    have V0 := Lib.hid ((hb4.block _ (Array.getElem?_eq_some_iff.1 U0.out).1).trans U0.out)
    have V1 := Lib.hid ((hb4.block _ (Array.getElem?_eq_some_iff.1 U1.out).1).trans U1.out)
    have HB4 := Lib.hid (HB3.out.trans (hb4.mono HB3.out.size))
    have HO4 := Lib.hid (ownsRow_keep HO.out (Keeps.of_below (P := fun _ => True) hb4) fun _ _ => trivial)
    have hsz4 := hb4.size
    have hal := below1 w4 (.cells #[.int .i64 p.k, .string p.t, .bool p.ng, .slice l2 p.lm.length lc2, .slice o2 0 k2, .int .i64 p.a, .slice m2 p.ms.length mc2, .slice t2 p.sb.length tc2] 50)
    have W0 := Lib.hid ((hal.block _ (Array.getElem?_eq_some_iff.1 V0.out).1).trans V0.out)
    have W1 := Lib.hid ((hal.block _ (Array.getElem?_eq_some_iff.1 V1.out).1).trans V1.out)
    have WB := Lib.hid (heap_alloc_new w4 (.cells #[.int .i64 p.k, .string p.t, .bool p.ng, .slice l2 p.lm.length lc2, .slice o2 0 k2, .int .i64 p.a, .slice m2 p.ms.length mc2, .slice t2 p.sb.length tc2] 50))
    have HB5 := Lib.hid (HB4.out.trans (hal.mono HB4.out.size))
    have HO5 := Lib.hid (ownsRow_keep HO4.out (Keeps.of_below (P := fun _ => True) hal) fun _ _ => trivial)
    have UL := Lib.hid (ownsRow_keep hol (Keeps.of_below (P := fun _ => True) hal) fun _ _ => trivial)
    have UX := Lib.hid (hox.below hal)
    have UM := Lib.hid (ownsRow_keep hom (Keeps.of_below (P := fun _ => True) hal) fun _ _ => trivial)
    have US := Lib.hid (ownsRow_keep hos (Keeps.of_below (P := fun _ => True) hal) fun _ _ => trivial)
    clear c0 c1 c2 c3 z0 z1 z2 z3 d0 d1 d2 d3 d4 d5 d6 d7 hb4 hal hol hox hom hos V0 V1 HB3 HB4 HO HO4 U0 U1 HL HA HV HS HP
    go_upto_region 4 with fail
    generalize w4.alloc (.cells #[.int .i64 p.k, .string p.t, .bool p.ng, .slice l2 p.lm.length lc2, .slice o2 0 k2, .int .i64 p.a, .slice m2 p.ms.length mc2, .slice t2 p.sb.length tc2] 50) = w5 at *
    have hbg : w4.heap.size < w5.heap.size := (Array.getElem?_eq_some_iff.1 WB.out).1
    obtain ⟨c0, c1, c2, c3, z0, z1, z2, z3⟩ := row4 W0.out
    have hs6 : (w5.setCell ⟨w.heap.size, 3, none⟩ (.pointer (some ⟨w4.heap.size, 0, none⟩))).heap[w.heap.size]? = some (.cells #[.int .i64 k, .int .i64 (c : Nat), .slice s2 l.length sc2, .pointer (some ⟨w4.heap.size, 0, none⟩)] 73 (0, 0)) := (rowSet W0.out 3 _).trans (by simp)
    have hs7 : (w5.setCell ⟨w.heap.size, 3, none⟩ (.pointer (some ⟨w4.heap.size, 0, none⟩))).heap[w.heap.size + 1]? = some (.cells #[.int .i64 0, .int .i64 0, .slice none 0 0, .pointer none] 73 (0, 0)) := (Below.heap_setCell _ _ _ _ hne).trans W1.out
    have X0 := Lib.hid hs6
    have X1 := Lib.hid hs7
    have HK6 := Lib.hid ((Keeps.refl (fun b => b ≠ w.heap.size) w5).set (p := ⟨w.heap.size, 3, none⟩) (fun h => h rfl) (.pointer (some ⟨w4.heap.size, 0, none⟩)))
    have HB6 : Hid (Below w.heap.size w (w5.setCell ⟨w.heap.size, 3, none⟩ (.pointer (some ⟨w4.heap.size, 0, none⟩)))) := Lib.hid (HB5.out.setCell (Nat.le_refl _) _)
    have HO6 := Lib.hid (own_set HO5.out W0.out (by decide) 3 (.pointer (some ⟨w4.heap.size, 0, none⟩)))
    have HZ6 : Hid ((w5.setCell ⟨w.heap.size, 3, none⟩ (.pointer (some ⟨w4.heap.size, 0, none⟩))).heap.size = w5.heap.size) := Lib.hid (by simp)
    clear hs6 hs7
    go_upto_region 5 with fail
    generalize w5.setCell ⟨w.heap.size, 3, none⟩ (.pointer (some ⟨w4.heap.size, 0, none⟩)) = w6 at *
    clear c0 c1 c2 c3 z0 z1 z2 z3
    obtain ⟨c0, c1, c2, c3, z0, z1, z2, z3⟩ := row4 X0.out
    obtain ⟨_, _, _, _, f0, f1, f2, f3⟩ := row4 X1.out
    go_wp2_with fail
    have hfin := put4 X1.out (.int .i64 k) (.int .i64 (c : Nat)) (.slice s2 l.length sc2) (.pointer (some ⟨w4.heap.size, 0, none⟩))
    have hk4 := keep4 (P := fun b => b ≠ w.heap.size + 1) w6 (w.heap.size + 1) (fun h => h rfl) (.int .i64 k) (.int .i64 (c : Nat)) (.slice s2 l.length sc2) (.pointer (some ⟨w4.heap.size, 0, none⟩))
    have hbl := below4 HB6.out (show w.heap.size ≤ w.heap.size + 1 by omega) (.int .i64 k) (.int .i64 (c : Nat)) (.slice s2 l.length sc2) (.pointer (some ⟨w4.heap.size, 0, none⟩))
    have hol := ownsRow_keep HO6.out hk4 (own_far HO6.out X1.out (by decide))
    have hsz := HSZ.out
    have hz3 := HZ3.out
    have hz6 := HZ6.out
    have hkk := (HK6.out.mono (Q := fun b => w2.heap.size ≤ b) fun b _ hb => by omega).trans (hk4.mono (Q := fun b => w2.heap.size ≤ b) fun b _ hb => by omega)
    obtain ⟨g0, g1, g2, g3, _⟩ := row4 hfin
    have hz7 : w5.heap.size ≤ (((((w6.setCell ⟨w.heap.size + 1, 0, none⟩ (.int .i64 k)).setCell ⟨w.heap.size + 1, 1, none⟩ (.int .i64 (c : Nat))).setCell ⟨w.heap.size + 1, 2, none⟩ (.slice s2 l.length sc2)).setCell ⟨w.heap.size + 1, 3, none⟩ (.pointer (some ⟨w4.heap.size, 0, none⟩)))).heap.size := hkk.1
    refine bodyPost_ret (v := .agg #[.int .i64 k, .int .i64 (c : Nat), .slice s2 l.length sc2, .pointer (some ⟨w4.heap.size, 0, none⟩)]) (by simp [results, Try.results25, go_sem, g0, g1, g2, g3]) rfl ?_
    refine ⟨_, _, w2.heap.size, rfl, ownsRow_base hol (by omega), HOL.out, by omega, ?_, hbl⟩
    refine PxAt.mono (P := fun b => w2.heap.size ≤ b ∧ b < w5.heap.size) ?_ fun b _ hb => ⟨hb.1, by omega⟩
    refine PxAt.move (w := w5) ?_ (hkk.mono fun b _ hb => hb.1)
    refine ⟨w4.heap.size, _, _, _, _, rfl, ⟨by omega, hbg⟩, WB.out, RowV.of_own UL.out, ?_, UX.out, RowV.of_own UM.out, ?_, RowV.of_own US.out, ?_⟩
    · intro b _ hb; have := UL.out.lt b hb; exact ⟨by omega, this.2⟩
    · intro b _ hb; have := UM.out.lt b hb; exact ⟨by omega, this.2⟩
    · intro b _ hb; have := US.out.lt b hb; exact ⟨by omega, this.2⟩
end Go.Proofs.Ytioidaojnbenbaa
