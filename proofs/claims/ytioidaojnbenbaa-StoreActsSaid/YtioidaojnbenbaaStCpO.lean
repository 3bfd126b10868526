/- An object's copy. | maps.Clone of the names' map. | A store's copy in the making. No walk but own. -/
import Derived.Test.YtioidaojnbenbaaStUnw
import Derived.Test.YtioidaojnbenbaaStCopied
import Derived.Test.YtioidaojnbenbaaStNm
import Derived.Laws.Externs
namespace Go.Proofs.Ytioidaojnbenbaa
open Go.RowKit

theorem row4o {W : World} {g : Nat} {a0 a1 a2 a3 : Value} {e : TypeId} (h : W.heap[g]? = some (.cells #[a0, a1, a2, a3] e (0, 0))) : W.cell? ⟨g, 0, none⟩ = some a0 ∧ W.cell? ⟨g, 1, none⟩ = some a1 ∧ W.cell? ⟨g, 2, none⟩ = some a2 ∧ W.cell? ⟨g, 3, none⟩ = some a3 ∧ W.frozen? ⟨g, 0, none⟩ = false ∧ W.frozen? ⟨g, 1, none⟩ = false ∧ W.frozen? ⟨g, 2, none⟩ = false ∧ W.frozen? ⟨g, 3, none⟩ = false :=
  ⟨cell_heap h 0, cell_heap h 1, cell_heap h 2, cell_heap h 3, frozen_heap h 0, frozen_heap h 1, frozen_heap h 2, frozen_heap h 3⟩
theorem put4 {W : World} {g : Nat} {a0 a1 a2 a3 : Value} {e : TypeId} (h : W.heap[g]? = some (.cells #[a0, a1, a2, a3] e (0, 0))) (b0 b1 b2 b3 : Value) : ((((W.setCell ⟨g, 0, none⟩ b0).setCell ⟨g, 1, none⟩ b1).setCell ⟨g, 2, none⟩ b2).setCell ⟨g, 3, none⟩ b3).heap[g]? = some (.cells #[b0, b1, b2, b3] e (0, 0)) :=
  (rowSet (rowSet (rowSet (rowSet h 0 _) 1 _) 2 _) 3 _).trans (by simp)
theorem below4 {B : Nat} {w W : World} (h : Below B w W) {g : Nat} (hg : B ≤ g) (b0 b1 b2 b3 : Value) : Below B w ((((W.setCell ⟨g, 0, none⟩ b0).setCell ⟨g, 1, none⟩ b1).setCell ⟨g, 2, none⟩ b2).setCell ⟨g, 3, none⟩ b3) :=
  (((h.setCell hg _).setCell hg _).setCell hg _).setCell hg _
theorem keep4 {P : Nat → Prop} (W : World) (g : Nat) (hp : ¬ P g) (b0 b1 b2 b3 : Value) : Keeps P W ((((W.setCell ⟨g, 0, none⟩ b0).setCell ⟨g, 1, none⟩ b1).setCell ⟨g, 2, none⟩ b2).setCell ⟨g, 3, none⟩ b3) :=
  ((((Keeps.refl P W).set (p := ⟨g, 0, none⟩) hp _).set (p := ⟨g, 1, none⟩) hp _).set (p := ⟨g, 2, none⟩) hp _).set (p := ⟨g, 3, none⟩) hp _
/-- What a piece must be to be copied. -/
def PxSm (x : Option Px) : Prop := ∀ p, x = some p → p.t.size ≤ 281474976710656 ∧ p.lm.length ≤ 2000000 ∧ p.ms.length ≤ 2000000 ∧ p.sb.length ≤ 2000000

set_option maxRecDepth 100000 in
set_option maxHeartbeats 4000000 in
theorem stocopied_any (k : Int) (c : Nat) (l : List (Int × Int)) (sv pv : Value) (x : Option Px) (P : Nat → Prop) (w : World) (hr : RowV w sv l.length 2 (vcs l)) (hl : l.length ≤ 2000000) (hp : PxAt P w pv x) (hx : PxSm x) :
    Calls Try.prog 25 #[.agg #[.int .i64 k, .int .i64 (c : Nat), sv, pv]] w fun e w' => ∃ sv' pv' m, e = .returned (.agg #[.int .i64 k, .int .i64 (c : Nat), sv', pv']) ∧ w'.ownsRow w.heap.size 35 2 sv' l.length (vcs l) ∧ (∀ b, sv'.ownBlock = some b → b < m) ∧ w.heap.size ≤ m ∧ PxAt (fun b => m ≤ b ∧ b < w'.heap.size) w' pv' x ∧ Below w.heap.size w w' := by
  have HR := Lib.hid hr
  have HP := Lib.hid hp
  have HX := Lib.hid hx
  obtain ⟨so, sc, rfl⟩ : ∃ a c, sv = .slice a l.length c := by obtain ⟨_, _, a, c, e, _⟩ := hr; exact ⟨a, c, e⟩
  obtain ⟨po, rfl⟩ : ∃ po, pv = .pointer po := by
    cases x with
    | none => exact ⟨_, hp⟩
    | some p => obtain ⟨b, _, _, _, _, e, _⟩ := hp; exact ⟨_, e⟩
  clear hr hp hx
  have HB1 := Lib.hid (below2 w (.cells #[.int .i64 k, .int .i64 (c : Nat), .slice so l.length sc, .pointer po] 73) (.cells #[.int .i64 0, .int .i64 0, .slice none 0 0, .pointer none] 73))
  have HN1 := Lib.hid (@news2v w (.cells #[.int .i64 k, .int .i64 (c : Nat), .slice so l.length sc, .pointer po] 73) (.cells #[.int .i64 0, .int .i64 0, .slice none 0 0, .pointer none] 73))
  have HN2 := Lib.hid (@news2u w (.cells #[.int .i64 k, .int .i64 (c : Nat), .slice so l.length sc, .pointer po] 73) (.cells #[.int .i64 0, .int .i64 0, .slice none 0 0, .pointer none] 73))
  go_enter Try.func25, Try.ntmps25
  go_upto_region 1 with fail
  generalize (w.alloc (.cells #[.int .i64 k, .int .i64 (c : Nat), .slice so l.length sc, .pointer po] 73)).alloc (.cells #[.int .i64 0, .int .i64 0, .slice none 0 0, .pointer none] 73) = w1 at *
  have R0 := Lib.hid HN1.out
  have R1 := Lib.hid HN2.out
  clear HN1 HN2
  obtain ⟨c0, c1, c2, c3, _, _, _, _⟩ := row4o R0.out
  go_wp2_with fail
  refine (stown_any _ l w1 (HR.out.below HB1.out) hl).mono ?_
  rintro e w2 ⟨v2, rfl, ho2, hb2⟩
  have HB2 := Lib.hid (HB1.out.trans (hb2.mono HB1.out.size))
  have S0 := Lib.hid ((hb2.block _ (Array.getElem?_eq_some_iff.1 R0.out).1).trans R0.out)
  have S1 := Lib.hid ((hb2.block _ (Array.getElem?_eq_some_iff.1 R1.out).1).trans R1.out)
  have HSZ : Hid (w.heap.size + 2 ≤ w1.heap.size ∧ w1.heap.size ≤ w2.heap.size) := Lib.hid ⟨(Array.getElem?_eq_some_iff.1 R1.out).1, hb2.size⟩
  obtain ⟨s2, sc2, rfl⟩ := own_dslice ho2
  clear hb2 R0 R1 HB1 c0 c1 c2 c3
  have hs3 : (w2.setCell ⟨w.heap.size, 2, none⟩ (.slice s2 l.length sc2)).heap[w.heap.size]? = some (.cells #[.int .i64 k, .int .i64 (c : Nat), .slice s2 l.length sc2, .pointer po] 73 (0, 0)) := (rowSet S0.out 2 _).trans (by simp)
  have hne : w.heap.size + 1 ≠ w.heap.size := by omega
  have hs4 : (w2.setCell ⟨w.heap.size, 2, none⟩ (.slice s2 l.length sc2)).heap[w.heap.size + 1]? = some (.cells #[.int .i64 0, .int .i64 0, .slice none 0 0, .pointer none] 73 (0, 0)) := (Below.heap_setCell _ _ _ _ hne).trans S1.out
  have ho3 := own_set ho2 S0.out (by decide) 2 (.slice s2 l.length sc2)
  have hb3 : Below w.heap.size w (w2.setCell ⟨w.heap.size, 2, none⟩ (.slice s2 l.length sc2)) := HB2.out.setCell (Nat.le_refl _) _
  have hz3 : (w2.setCell ⟨w.heap.size, 2, none⟩ (.slice s2 l.length sc2)).heap.size = w2.heap.size := by simp
  have U0 := Lib.hid hs3
  have U1 := Lib.hid hs4
  have HO := Lib.hid ho3
  have HB3 := Lib.hid hb3
  have HZ3 := Lib.hid hz3
  have HOL : Hid (∀ b, (Value.slice s2 l.length sc2).ownBlock = some b → b < w2.heap.size) := Lib.hid fun b hb => (ho2.lt b hb).2
  obtain ⟨c0, c1, c2, c3, z0, z1, z2, z3⟩ := row4o S0.out
  clear hs3 hs4 ho3 hb3 hz3 ho2
  go_upto_region 2 with fail
  generalize w2.setCell ⟨w.heap.size, 2, none⟩ (.slice s2 l.length sc2) = w3 at *
  clear c0 c1 c2 c3 z0 z1 z2 z3 S0 S1 HB2
  obtain ⟨c0, c1, c2, c3, z0, z1, z2, z3⟩ := row4o U0.out
  cases x with
  | none =>
    have hpo : po = none := by have := HP.out; unfold PxAt at this; simpa using this
    subst hpo
    obtain ⟨_, _, _, _, f0, f1, f2, f3⟩ := row4o U1.out
    go_wp2_with fail
    have hfin := put4 U1.out (.int .i64 k) (.int .i64 (c : Nat)) (.slice s2 l.length sc2) (.pointer none)
    have hk4 := keep4 (P := fun b => b ≠ w.heap.size + 1) w3 (w.heap.size + 1) (fun h => h rfl) (.int .i64 k) (.int .i64 (c : Nat)) (.slice s2 l.length sc2) (.pointer none)
    have hbl := below4 HB3.out (show w.heap.size ≤ w.heap.size + 1 by omega) (.int .i64 k) (.int .i64 (c : Nat)) (.slice s2 l.length sc2) (.pointer none)
    have hol := ownsRow_keep HO.out hk4 (own_far HO.out U1.out (by decide))
    obtain ⟨g0, g1, g2, g3, _⟩ := row4o hfin
    have hsz := HSZ.out
    refine bodyPost_ret (v := .agg #[.int .i64 k, .int .i64 (c : Nat), .slice s2 l.length sc2, .pointer none]) (by simp [results, Try.results25, go_sem, g0, g1, g2, g3]) rfl ?_
    exact ⟨_, _, w2.heap.size, rfl, ownsRow_base hol (by omega), HOL.out, by omega, rfl, hbl⟩
  | some p =>
    obtain ⟨pb, lv, av, mw, sv, hpv, _, hpc, hlv, _, hav, hmv, _, hsv, _⟩ := (HP.out.move (P := P) (Keeps.of_below HB3.out) : PxAt P w3 (.pointer po) (some p))
    obtain ⟨hx1, hx2, hx3, hx4⟩ := HX.out p rfl
    obtain ⟨ao, ac, rfl⟩ : ∃ a c, av = .slice a 0 c := by obtain ⟨_, _, a, c, e, _⟩ := hav; exact ⟨a, c, e⟩
    have HL := Lib.hid hlv
    have HA := Lib.hid hav
    have HV := Lib.hid hmv
    have HS := Lib.hid hsv
    simp only [Value.pointer.injEq] at hpv
    subst hpv
    obtain ⟨d0, d1, d2, d3, d4, d5, d6, d7⟩ := row8 hpc
    clear hlv hav hmv hsv hpc
    go_wp2_with fail
    refine (stcopied_any p _ _ _ ao ac w3 hx1 HL.out HA.out HV.out HS.out hx2 hx3 hx4).mono ?_
    rintro e w4 ⟨⟨lv2, o2, k2, mv2, sv2, rfl, hol, hox, hom, hos⟩, hb4⟩
    obtain ⟨l2, lc2, rfl⟩ := own_dslice hol
    obtain ⟨m2, mc2, rfl⟩ := own_dslice hom
    obtain ⟨t2, tc2, rfl⟩ := own_dslice hos
    have V0 := Lib.hid ((hb4.block _ (Array.getElem?_eq_some_iff.1 U0.out).1).trans U0.out)
    have V1 := Lib.hid ((hb4.block _ (Array.getElem?_eq_some_iff.1 U1.out).1).trans U1.out)
    have HB4 := Lib.hid (HB3.out.trans (hb4.mono HB3.out.size))
    have HO4 := Lib.hid (ownsRow_keep HO.out (Keeps.of_below (P := fun _ => True) hb4) fun _ _ => trivial)
    have hsz4 := hb4.size
    have hal := below1 w4 (.cells #[.int .i64 p.k, .string p.t, .bool p.ng, .slice l2 p.lm.length lc2, .slice o2 0 k2, .int .i64 p.a, .slice m2 p.ms.length mc2, .slice t2 p.sb.length tc2] 50)
    have W0 := Lib.hid ((hal.block _ (Array.getElem?_eq_some_iff.1 V0.out).1).trans V0.out)
    have W1 := Lib.hid ((hal.block _ (Array.getElem?_eq_some_iff.1 V1.out).1).trans V1.out)
    have WB := Lib.hid (heap_alloc_new w4 (.cells #[.int .i64 p.k, .string p.t, .bool p.ng, .slice l2 p.lm.length lc2, .slice o2 0 k2, .int .i64 p.a, .slice m2 p.ms.length mc2, .slice t2 p.sb.length tc2] 50))
    have HB5 := Lib.hid (HB4.out.trans (hal.mono HB4.out.size))
    have HO5 := Lib.hid (ownsRow_keep HO4.out (Keeps.of_below (P := fun _ => True) hal) fun _ _ => trivial)
    have UL := Lib.hid (ownsRow_keep hol (Keeps.of_below (P := fun _ => True) hal) fun _ _ => trivial)
    have UX := Lib.hid (hox.below hal)
    have UM := Lib.hid (ownsRow_keep hom (Keeps.of_below (P := fun _ => True) hal) fun _ _ => trivial)
    have US := Lib.hid (ownsRow_keep hos (Keeps.of_below (P := fun _ => True) hal) fun _ _ => trivial)
    clear c0 c1 c2 c3 z0 z1 z2 z3 d0 d1 d2 d3 d4 d5 d6 d7 hb4 hal hol hox hom hos V0 V1 HB3 HB4 HO HO4 U0 U1 HL HA HV HS HP
    go_upto_region 4 with fail
    generalize w4.alloc (.cells #[.int .i64 p.k, .string p.t, .bool p.ng, .slice l2 p.lm.length lc2, .slice o2 0 k2, .int .i64 p.a, .slice m2 p.ms.length mc2, .slice t2 p.sb.length tc2] 50) = w5 at *
    have hbg : w4.heap.size < w5.heap.size := (Array.getElem?_eq_some_iff.1 WB.out).1
    obtain ⟨c0, c1, c2, c3, z0, z1, z2, z3⟩ := row4o W0.out
    have hs6 : (w5.setCell ⟨w.heap.size, 3, none⟩ (.pointer (some ⟨w4.heap.size, 0, none⟩))).heap[w.heap.size]? = some (.cells #[.int .i64 k, .int .i64 (c : Nat), .slice s2 l.length sc2, .pointer (some ⟨w4.heap.size, 0, none⟩)] 73 (0, 0)) := (rowSet W0.out 3 _).trans (by simp)
    have hs7 : (w5.setCell ⟨w.heap.size, 3, none⟩ (.pointer (some ⟨w4.heap.size, 0, none⟩))).heap[w.heap.size + 1]? = some (.cells #[.int .i64 0, .int .i64 0, .slice none 0 0, .pointer none] 73 (0, 0)) := (Below.heap_setCell _ _ _ _ hne).trans W1.out
    have X0 := Lib.hid hs6
    have X1 := Lib.hid hs7
    have HK6 := Lib.hid ((Keeps.refl (fun b => b ≠ w.heap.size) w5).set (p := ⟨w.heap.size, 3, none⟩) (fun h => h rfl) (.pointer (some ⟨w4.heap.size, 0, none⟩)))
    have HB6 : Hid (Below w.heap.size w (w5.setCell ⟨w.heap.size, 3, none⟩ (.pointer (some ⟨w4.heap.size, 0, none⟩)))) := Lib.hid (HB5.out.setCell (Nat.le_refl _) _)
    have HO6 := Lib.hid (own_set HO5.out W0.out (by decide) 3 (.pointer (some ⟨w4.heap.size, 0, none⟩)))
    have HZ6 : Hid ((w5.setCell ⟨w.heap.size, 3, none⟩ (.pointer (some ⟨w4.heap.size, 0, none⟩))).heap.size = w5.heap.size) := Lib.hid (by simp)
    clear hs6 hs7
    go_upto_region 5 with fail
    generalize w5.setCell ⟨w.heap.size, 3, none⟩ (.pointer (some ⟨w4.heap.size, 0, none⟩)) = w6 at *
    clear c0 c1 c2 c3 z0 z1 z2 z3
    obtain ⟨c0, c1, c2, c3, z0, z1, z2, z3⟩ := row4o X0.out
    obtain ⟨_, _, _, _, f0, f1, f2, f3⟩ := row4o X1.out
    go_wp2_with fail
    have hfin := put4 X1.out (.int .i64 k) (.int .i64 (c : Nat)) (.slice s2 l.length sc2) (.pointer (some ⟨w4.heap.size, 0, none⟩))
    have hk4 := keep4 (P := fun b => b ≠ w.heap.size + 1) w6 (w.heap.size + 1) (fun h => h rfl) (.int .i64 k) (.int .i64 (c : Nat)) (.slice s2 l.length sc2) (.pointer (some ⟨w4.heap.size, 0, none⟩))
    have hbl := below4 HB6.out (show w.heap.size ≤ w.heap.size + 1 by omega) (.int .i64 k) (.int .i64 (c : Nat)) (.slice s2 l.length sc2) (.pointer (some ⟨w4.heap.size, 0, none⟩))
    have hol := ownsRow_keep HO6.out hk4 (own_far HO6.out X1.out (by decide))
    have hsz := HSZ.out
    have hz3 := HZ3.out
    have hz6 := HZ6.out
    have hkk := (HK6.out.mono (Q := fun b => w2.heap.size ≤ b) fun b _ hb => by omega).trans (hk4.mono (Q := fun b => w2.heap.size ≤ b) fun b _ hb => by omega)
    obtain ⟨g0, g1, g2, g3, _⟩ := row4o hfin
    have hz7 : w5.heap.size ≤ (((((w6.setCell ⟨w.heap.size + 1, 0, none⟩ (.int .i64 k)).setCell ⟨w.heap.size + 1, 1, none⟩ (.int .i64 (c : Nat))).setCell ⟨w.heap.size + 1, 2, none⟩ (.slice s2 l.length sc2)).setCell ⟨w.heap.size + 1, 3, none⟩ (.pointer (some ⟨w4.heap.size, 0, none⟩)))).heap.size := hkk.1
    refine bodyPost_ret (v := .agg #[.int .i64 k, .int .i64 (c : Nat), .slice s2 l.length sc2, .pointer (some ⟨w4.heap.size, 0, none⟩)]) (by simp [results, Try.results25, go_sem, g0, g1, g2, g3]) rfl ?_
    refine ⟨_, _, w2.heap.size, rfl, ownsRow_base hol (by omega), HOL.out, by omega, ?_, hbl⟩
    refine PxAt.mono (P := fun b => w2.heap.size ≤ b ∧ b < w5.heap.size) ?_ fun b _ hb => ⟨hb.1, by omega⟩
    refine PxAt.move (w := w5) ?_ (hkk.mono fun b _ hb => hb.1)
    refine ⟨w4.heap.size, _, _, _, _, rfl, ⟨by omega, hbg⟩, WB.out, RowV.of_own UL.out, ?_, UX.out, RowV.of_own UM.out, ?_, RowV.of_own US.out, ?_⟩
    · intro b _ hb; have := UL.out.lt b hb; exact ⟨by omega, this.2⟩
    · intro b _ hb; have := UM.out.lt b hb; exact ⟨by omega, this.2⟩
    · intro b _ hb; have := US.out.lt b hb; exact ⟨by omega, this.2⟩
end Go.Proofs.Ytioidaojnbenbaa
namespace Go.Proofs.Ytioidaojnbenbaa
open Go.RowKit

theorem run_clone {r : Nat} {es : Array MapEntry} {clock : Nat} {w : World} (t : TypeId) (hb : w.heap[r]? = some (.map es clock)) :
    (Extern.MapsClone.clone #[.iface t (.map (some r))]).run Try.prog w = .ok (.iface t (.map (some w.heap.size))) (w.alloc (.map es clock)) := by
  have e : Extern.MapsClone.clone #[.iface t (.map (some r))] = (getObj r >>= fun o => match o with
      | .map entries clock => (newObj (.map entries clock) >>= fun n => pure (.iface t (.map (some n))))
      | _ => stuck "maps.clone: a map expected") := rfl
  rw [e]
  simp [MapKept.run_getObj_map hb, Result.andThen, go_sem]
set_option maxRecDepth 100000 in
theorem run_as_map (x : TypeId) (v : Value) (w : World) : (Instr.typeAssert (.iface 67 v) x 67 false).run Try.prog w = .ok v w := by
  simp [Instr.typeAssert, run_underlying Try.underlying67, go_sem, Result.andThen]
set_option maxRecDepth 100000 in
set_option maxHeartbeats 2000000 in
theorem mclone_any (b : Nat) (es : Array MapEntry) (clock : Nat) (w : World) (hb : w.heap[b]? = some (.map es clock)) :
    Calls Try.prog 27 #[.map (some b)] w fun e w' => e = .returned (.map (some w.heap.size)) ∧ w' = w.alloc (.map es clock) := by
  have hq := eqMapS b
  have hf : Try.prog.funcs[57]? = some Try.f57 := by kernel_rfl
  go_enter Try.func27, Try.ntmps27
  go_wp2
  rw [run_callFunc_extern hf (by kernel_rfl) (by kernel_rfl) (by kernel_rfl) (e := Extern.MapsClone.clone) (by kernel_rfl), run_clone _ hb]
  simp only [Result.andThen]
  rw [Oper.upon_value]
  go_wp2
  rw [run_as_map]
  simp only [Result.andThen]
  rw [Oper.upon_value]
  go_wp2
  go_ret
  exact ⟨rfl, rfl⟩
set_option maxRecDepth 100000 in
set_option maxHeartbeats 2000000 in
theorem mclone_nil (w : World) : Calls Try.prog 27 #[.map none] w fun e w' => e = .returned (.map none) ∧ w' = w := by
  have hq := eqMapN
  go_enter Try.func27, Try.ntmps27
  go_wp2
  go_ret
  exact ⟨rfl, rfl⟩
end Go.Proofs.Ytioidaojnbenbaa
namespace Go.Proofs.Ytioidaojnbenbaa
open Go.RowKit

theorem omLs_put4 : ∀ (l : List OM) (i : Nat) (_h : i < l.length) (m : OM), ((((omLs l).set (i * 4) (.int .i64 m.o.k)).set (i * 4 + 1) (.int .i64 (m.o.c : Nat))).set (i * 4 + 2) m.sv).set (i * 4 + 3) m.pv = omLs (l.set i m)
  | [], i, h, _ => by simp at h
  | y :: l, 0, _, m => by simp [omLs_cons]
  | y :: l, i + 1, h, m => by
    have := omLs_put4 l i (by simpa using h) m
    rw [List.set_cons_succ, omLs_cons, omLs_cons, ← this, show (i + 1) * 4 = i * 4 + 1 + 1 + 1 + 1 by omega]
    rfl
theorem infoStr8 : (Try.prog.info? 9).map (fun i => (i.zero, i.size, i.bytes)) = some (some (.string ⟨#[]⟩), 1, 16) := by kernel_rfl
theorem StM.cells1 {w : World} {g : Nat} {R : Nat → Nat} {s : St} {ms : List OM} {ov nv mv : Value} (h : StM w g R s ms ov nv mv) : ∀ u ∈ omLs ms, u.oneCell' = true := by
  intro u hu
  obtain ⟨m, hm, hu⟩ := List.mem_flatMap.1 hu
  obtain ⟨i, hi, rfl⟩ := List.getElem_of_mem hm
  obtain ⟨_, _, e⟩ := own_dslice (h.srow i hi)
  have hp := h.prow i hi
  have hpv : ∃ po, (ms[i]'hi).pv = .pointer po := by
    cases hx : (ms[i]'hi).o.x with
    | none => rw [hx] at hp; exact ⟨_, hp⟩
    | some p => rw [hx] at hp; obtain ⟨_, _, _, _, _, e, _⟩ := hp; exact ⟨_, e⟩
  obtain ⟨po, hpo⟩ := hpv
  unfold omL at hu
  rw [e, hpo] at hu
  simp only [List.mem_cons, List.not_mem_nil, or_false] at hu
  rcases hu with rfl | rfl | rfl | rfl <;> rfl
set_option maxRecDepth 100000 in
set_option maxHeartbeats 2000000 in
theorem stowno_any (lv : Value) (n : Nat) (us : List Value) (w : World) (hr : RowV w lv n 4 us) (h1 : ∀ u ∈ us, u.oneCell' = true) (hl : n ≤ 2000000) :
    Calls Try.prog 24 #[lv] w fun e w' => ∃ v', e = .returned v' ∧ w'.ownsRow w.heap.size 73 4 v' n us ∧ Below w.heap.size w w' := by
  obtain ⟨i0, hi, hz0, hz1, hz2⟩ := info_parts infoObj
  have HR := Lib.hid hr
  obtain ⟨ao, cap, rfl⟩ : ∃ a c, lv = .slice a n c := by obtain ⟨_, _, a, c, e, _⟩ := hr; exact ⟨a, c, e⟩
  clear hr
  go_enter Try.func24, Try.ntmps24
  go_wp2_with (at_builtin; go_loud (refine wpList_append_row _ rfl _ _ 66 rfl w.heap.size 73 i0 _ 4 48 Try.underlying66 hi hz0 hz1 hz2 rfl (by decide) (.slice none 0 0) 0 [] rfl (World.ownsRow_nil _ _ _ _) _ n us rfl HR.out h1 (by unfold maxLen; omega) (by omega) (by simp) ?_); go_loud (intro v' w1 hown1 hgrow hmv; rw [Nat.zero_add, List.nil_append] at hown1; have HO := Lib.hid hown1; have HG := Lib.hid hgrow; clear hown1 hgrow hmv))
  go_ret
  exact ⟨_, rfl, HO.out, (Below.refl _ _).grown HG.out (Nat.le_refl _) (fun q hq => by cases hq)⟩
set_option maxRecDepth 100000 in
set_option maxHeartbeats 2000000 in
theorem stowns_any (lv : Value) (n : Nat) (us : List Value) (w : World) (hr : RowV w lv n 1 us) (h1 : ∀ u ∈ us, u.oneCell' = true) (hl : n ≤ 2000000) :
    Calls Try.prog 26 #[lv] w fun e w' => ∃ v', e = .returned v' ∧ w'.ownsRow w.heap.size 9 1 v' n us ∧ Below w.heap.size w w' := by
  obtain ⟨i0, hi, hz0, hz1, hz2⟩ := info_parts infoStr8
  have HR := Lib.hid hr
  obtain ⟨ao, cap, rfl⟩ : ∃ a c, lv = .slice a n c := by obtain ⟨_, _, a, c, e, _⟩ := hr; exact ⟨a, c, e⟩
  clear hr
  go_enter Try.func26, Try.ntmps26
  go_wp2_with (at_builtin; go_loud (refine wpList_append_row _ rfl _ _ 30 rfl w.heap.size 9 i0 _ 1 16 Try.underlying30 hi hz0 hz1 hz2 rfl (by decide) (.slice none 0 0) 0 [] rfl (World.ownsRow_nil _ _ _ _) _ n us rfl HR.out h1 (by unfold maxLen; omega) (by omega) (by simp) ?_); go_loud (intro v' w1 hown1 hgrow hmv; rw [Nat.zero_add, List.nil_append] at hown1; have HO := Lib.hid hown1; have HG := Lib.hid hgrow; clear hown1 hgrow hmv))
  go_ret
  exact ⟨_, rfl, HO.out, (Below.refl _ _).grown HG.out (Nat.le_refl _) (fun q hq => by cases hq)⟩

/-- THE COPY in the making: so many of its objects are its own. -/
structure CpM (w0 wr : World) (g2 : Nat) (R : Nat → Nat) (s : St) (ms ms' : List OM) (rv nv mv : Value) (k : Nat) : Prop where
  bel : Below w0.heap.size w0 wr
  lo : ∀ b, R b ≠ 0 → w0.heap.size ≤ b ∧ b < wr.heap.size
  gR : R g2 = 1
  box : wr.heap[g2]? = some (.cells #[.int .i64 (s.L : Nat), .int .i64 (s.U : Nat), rv, nv, mv] 69 (0, 0))
  row : wr.ownsRow w0.heap.size 73 4 rv ms'.length (omLs ms')
  rR : ∀ b, rv.ownBlock = some b → R b = 2
  len : ms'.length = ms.length
  eqs : ms'.map OM.o = ms.map OM.o
  old : ∀ i, k ≤ i → ms'[i]? = ms[i]?
  srow : ∀ i (h : i < ms'.length), i < k → wr.ownsRow 0 35 2 (ms'[i]'h).sv (ms'[i]'h).o.s.length (vcs (ms'[i]'h).o.s)
  sR : ∀ i (h : i < ms'.length), i < k → ∀ b, (ms'[i]'h).sv.ownBlock = some b → R b = 6 + i
  prow : ∀ i (h : i < ms'.length), i < k → PxAt (fun b => R b = 5) wr (ms'[i]'h).pv (ms'[i]'h).o.x
theorem CpM.below {w0 wr w' : World} {g2 : Nat} {R : Nat → Nat} {s : St} {ms ms' : List OM} {rv nv mv : Value} {k : Nat} (h : CpM w0 wr g2 R s ms ms' rv nv mv k) (hb : Below wr.heap.size wr w') : CpM w0 w' g2 R s ms ms' rv nv mv k where
  bel := h.bel.trans (hb.mono h.bel.size)
  lo b hR := ⟨(h.lo b hR).1, Nat.lt_of_lt_of_le (h.lo b hR).2 hb.size⟩
  gR := h.gR
  box := (hb.block _ (h.lo g2 (by rw [h.gR]; omega)).2).trans h.box
  row := ownsRow_keep h.row (Keeps.of_below (P := fun _ => True) hb) fun _ _ => trivial
  rR := h.rR
  len := h.len
  eqs := h.eqs
  old := h.old
  srow i hi hk := ownsRow_keep (h.srow i hi hk) (Keeps.of_below (P := fun _ => True) hb) fun _ _ => trivial
  sR := h.sR
  prow i hi hk := (h.prow i hi hk).move (Keeps.of_below hb)
theorem CpM.rowAt {w0 wr : World} {g2 : Nat} {R : Nat → Nat} {s : St} {ms ms' : List OM} {rv nv mv : Value} {k : Nat} (h : CpM w0 wr g2 R s ms ms' rv nv mv k) {i : Nat} (hi : i < ms'.length) :
    ∃ b cap, rv = .slice (some ⟨b, 0, none⟩) ms'.length cap ∧ ms'.length ≤ cap ∧ w0.heap.size ≤ b ∧ b < wr.heap.size ∧ R b = 2 ∧ (∀ j, wr.frozen? ⟨b, j, none⟩ = false) ∧ wr.cell? ⟨b, i * 4, none⟩ = some (.int .i64 (ms'[i]'hi).o.k) ∧ wr.cell? ⟨b, i * 4 + 1, none⟩ = some (.int .i64 ((ms'[i]'hi).o.c : Nat)) ∧ wr.cell? ⟨b, i * 4 + 2, none⟩ = some (ms'[i]'hi).sv ∧ wr.cell? ⟨b, i * 4 + 3, none⟩ = some (ms'[i]'hi).pv := by
  have ho := h.row
  rcases ho.2 with ⟨_, h0⟩ | ⟨b, cap, cur, e, hlo, hc, hn, _, _, ht⟩
  · omega
  · have hcell := ho.cells (g := b) (by rw [e]; rfl)
    obtain ⟨g0, g1, g2, g3⟩ := omLs_get ms' i hi
    refine ⟨b, cap, e, hn, hlo, (Array.getElem?_eq_some_iff.1 hc).1, h.rR b (by rw [e]; rfl), fun j => frozen_heap hc j, ?_, ?_, ?_, ?_⟩
    · have := hcell _ _ g0; rwa [Addr.add_mid, Nat.zero_add] at this
    · have := hcell _ _ g1; rwa [Addr.add_mid, Nat.zero_add] at this
    · have := hcell _ _ g2; rwa [Addr.add_mid, Nat.zero_add] at this
    · have := hcell _ _ g3; rwa [Addr.add_mid, Nat.zero_add] at this
def set4 (W : World) (b i : Nat) (m : OM) : World := (((W.setCell ⟨b, i * 4, none⟩ (.int .i64 m.o.k)).setCell ⟨b, i * 4 + 1, none⟩ (.int .i64 (m.o.c : Nat))).setCell ⟨b, i * 4 + 2, none⟩ m.sv).setCell ⟨b, i * 4 + 3, none⟩ m.pv
theorem set4_keep {P : Nat → Prop} (W : World) (b i : Nat) (m : OM) (hp : ¬ P b) : Keeps P W (set4 W b i m) :=
  ((((Keeps.refl P W).set (p := ⟨b, i * 4, none⟩) hp _).set (p := ⟨b, i * 4 + 1, none⟩) hp _).set (p := ⟨b, i * 4 + 2, none⟩) hp _).set (p := ⟨b, i * 4 + 3, none⟩) hp _
theorem CpM.step {w0 W : World} {g2 : Nat} {R : Nat → Nat} {s : St} {ms ms' : List OM} {rv nv mv : Value} {k : Nat} (h : CpM w0 W g2 R s ms ms' rv nv mv k) (hk : k < ms'.length) {rb cap : Nat} (hrv : rv = .slice (some ⟨rb, 0, none⟩) ms'.length cap) (m : OM) {B M : Nat} (ho : m.o = (ms'[k]'hk).o) (hB : ∀ b, R b ≠ 0 → b < B) (hB0 : w0.heap.size ≤ B) (hBM : B ≤ M)
    (hs : W.ownsRow B 35 2 m.sv m.o.s.length (vcs m.o.s)) (hsM : ∀ b, m.sv.ownBlock = some b → b < M) (hp : PxAt (fun b => M ≤ b) W m.pv m.o.x) : ∃ R', CpM w0 (set4 W rb k m) g2 R' s ms (ms'.set k m) rv nv mv (k + 1) := by
  classical
  have hrb2 : R rb = 2 := h.rR rb (by rw [hrv]; rfl)
  have hrl := h.lo rb (by rw [hrb2]; omega)
  have hz : ∀ b, B ≤ b → R b = 0 := fun b hb => Classical.byContradiction fun hn => by have := hB b hn; omega
  have hsz : W.heap.size ≤ (set4 W rb k m).heap.size := (set4_keep (P := fun _ => False) W rb k m (fun h => h)).1
  refine ⟨fun b => if R b ≠ 0 then R b else if m.sv.ownBlock = some b then 6 + k else if M ≤ b ∧ b < W.heap.size then 5 else 0, ?_⟩
  have hold : ∀ b, R b ≠ 0 → (if R b ≠ 0 then R b else if m.sv.ownBlock = some b then 6 + k else if M ≤ b ∧ b < W.heap.size then 5 else 0) = R b := fun b hb => if_pos hb
  refine ⟨?_, fun b hb => ?_, ?_, ?_, ?_, fun b hb => ?_, ?_, ?_, fun i hi => ?_, fun i hi hik => ?_, fun i hi hik b hb => ?_, fun i hi hik => ?_⟩
  · exact (((h.bel.setCell hrl.1 _).setCell hrl.1 _).setCell hrl.1 _).setCell hrl.1 _
  · by_cases h0 : R b ≠ 0
    · exact ⟨(h.lo b h0).1, Nat.lt_of_lt_of_le (h.lo b h0).2 hsz⟩
    · simp only [if_neg h0] at hb
      by_cases h1 : m.sv.ownBlock = some b
      · have := hs.lt b h1
        exact ⟨by omega, by omega⟩
      · simp only [if_neg h1] at hb
        by_cases h2 : M ≤ b ∧ b < W.heap.size
        · exact ⟨by omega, by omega⟩
        · simp [h2] at hb
  · rw [hold g2 (by rw [h.gR]; omega)]; exact h.gR
  · have hne : g2 ≠ rb := fun e => by have := h.gR; rw [e, hrb2] at this; omega
    exact ((set4_keep (P := fun b => b ≠ rb) W rb k m (fun h => h rfl)).2 g2 (h.lo g2 (by rw [h.gR]; omega)).2 hne).trans h.box
  · have hl : (omLs ms').length = ms'.length * 4 := omLs_len ms'
    have hr := h.row
    rw [hrv] at hr
    have h1 := ownsRow_set hr (j := k * 4) (by omega) (.int .i64 m.o.k)
    have h2 := ownsRow_set h1 (j := k * 4 + 1) (by simp; omega) (.int .i64 (m.o.c : Nat))
    have h3 := ownsRow_set h2 (j := k * 4 + 2) (by simp; omega) m.sv
    have h4 := ownsRow_set h3 (j := k * 4 + 3) (by simp; omega) m.pv
    rw [omLs_put4 ms' k hk m] at h4
    rw [hrv, List.length_set]
    exact h4
  · have := h.rR b hb
    rw [hold b (by omega)]; exact this
  · rw [List.length_set]; exact h.len
  · rw [← h.eqs, List.map_set, ho]
    have e : (ms'[k]'hk).o = (ms'.map OM.o)[k]'(by simpa using hk) := by simp
    rw [e, List.set_getElem_self]
  · rw [List.getElem?_set_ne (by omega)]
    exact h.old i (by omega)
  · rw [List.length_set] at hi
    by_cases e : k = i
    · subst e
      simp only [List.getElem_set_self]
      have hrs := ownsRow_base hs (Nat.zero_le _)
      refine ownsRow_keep hrs (set4_keep (P := fun b => b ≠ rb) W rb k m (fun h => h rfl)) fun b hb e => ?_
      have := (hs.lt b hb).1
      have := hB rb (by omega)
      omega
    · rw [List.getElem_set_ne e]
      refine ownsRow_keep (h.srow i hi (by omega)) (set4_keep (P := fun b => b ≠ rb) W rb k m (fun h => h rfl)) fun b hb e => ?_
      have := h.sR i hi (by omega) b hb
      rw [e, hrb2] at this
      omega
  · rw [List.length_set] at hi
    by_cases e : k = i
    · subst e
      simp only [List.getElem_set_self] at hb
      have h1 := hz b (hs.lt b hb).1
      simp only [h1, ne_eq, not_true_eq_false, if_false, hb, if_true]
    · rw [List.getElem_set_ne e] at hb
      have := h.sR i hi (by omega) b hb
      rw [hold b (by omega)]; exact this
  · rw [List.length_set] at hi
    by_cases e : k = i
    · subst e
      simp only [List.getElem_set_self]
      refine PxAt.mono (P := fun b => M ≤ b ∧ b < W.heap.size) (PxAt.move (w := W) (hp.mono fun b hb hM => ⟨hM, hb⟩) (set4_keep W rb k m fun hh => ?_)) fun b _ hb => ?_
      · have := hB rb (by omega)
        omega
      · have h1 := hz b (by omega)
        have h2 : ¬ m.sv.ownBlock = some b := fun e => by have := hsM b e; omega
        simp only [h1, ne_eq, not_true_eq_false, if_false, h2, hb, and_self, if_true]
    · rw [List.getElem_set_ne e]
      refine PxAt.mono (PxAt.move (h.prow i hi (by omega)) (set4_keep W rb k m fun hh => ?_)) fun b _ hb => ?_
      · omega
      · rw [hold b (by omega)]; exact hb
theorem CpM.fin {w0 W Wf : World} {g g2 : Nat} {R R0 : Nat → Nat} {s : St} {ms ms' : List OM} {rv ov nv mv nv' mv' : Value} {n0 m0 : Value} (h : CpM w0 W g2 R s ms ms' rv n0 m0 ms'.length) (hM : StM w0 g R0 s ms ov nv mv) (hbf : Wf.heap[g2]? = some (.cells #[.int .i64 (s.L : Nat), .int .i64 (s.U : Nat), rv, nv', mv'] 69 (0, 0))) (hkf : Keeps (fun b => b ≠ g2) W Wf) {M : Nat}
    (hn : Wf.ownsRow W.heap.size 9 1 nv' s.ns.length (s.ns.map Value.string)) (hnM : ∀ b, nv'.ownBlock = some b → b < M) (hWM : W.heap.size ≤ M) (hm : (mv' = .map none ∧ s.ns = []) ∨ ∃ b, mv' = .map (some b) ∧ M ≤ b ∧ b < Wf.heap.size ∧ MapS Wf b s.ns) : ∃ R', StW Wf g2 R' s ∧ ∀ b, R' b ≠ 0 → w0.heap.size ≤ b := by
  classical
  have hz : ∀ b, W.heap.size ≤ b → R b = 0 := fun b hb => Classical.byContradiction fun hn => by have := (h.lo b hn).2; omega
  have hold : ∀ b, R b ≠ 0 → (if R b ≠ 0 then R b else if nv'.ownBlock = some b then 3 else if mv' = .map (some b) then 4 else 0) = R b := fun b hb => if_pos hb
  have hw0 : w0.heap.size ≤ W.heap.size := h.bel.size
  have hkr : Keeps (fun b => R b ≠ 0 ∧ R b ≠ 1) W Wf := hkf.mono fun b _ hb e => by subst e; exact hb.2 h.gR
  have hlt : ∀ b, (if R b ≠ 0 then R b else if nv'.ownBlock = some b then 3 else if mv' = .map (some b) then 4 else 0) ≠ 0 → w0.heap.size ≤ b ∧ b < Wf.heap.size := by
    intro b hb
    by_cases h0 : R b ≠ 0
    · exact ⟨(h.lo b h0).1, Nat.lt_of_lt_of_le (h.lo b h0).2 hkf.1⟩
    · simp only [if_neg h0] at hb
      by_cases h1 : nv'.ownBlock = some b
      · have := hn.lt b h1
        exact ⟨by omega, this.2⟩
      · simp only [if_neg h1] at hb
        rcases hm with ⟨e, _⟩ | ⟨b', e, h3, h4, _⟩
        · rw [e] at hb; simp at hb
        · by_cases h5 : mv' = .map (some b)
          · rw [e] at h5; injection h5 with h5; injection h5 with h5; subst h5
            exact ⟨by omega, h4⟩
          · simp [h5] at hb
  refine ⟨fun b => if R b ≠ 0 then R b else if nv'.ownBlock = some b then 3 else if mv' = .map (some b) then 4 else 0, ⟨ms', rv, nv', mv', ?_⟩, fun b hb => (hlt b hb).1⟩
  refine ⟨hM.ok, ?_, fun b hb => (hlt b hb).2, ?_, hbf, ?_, fun b hb => ?_, fun i hi => ?_, fun i hi b hb => ?_, fun i hi => ?_, ?_, fun b hb => ?_, ?_⟩
  · rw [hM.eqs, h.eqs]
  · rw [hold g2 (by rw [h.gR]; omega)]; exact h.gR
  · exact ownsRow_base (ownsRow_keep h.row hkr fun b hb => by have := h.rR b hb; omega) (Nat.zero_le _)
  · have := h.rR b hb
    rw [hold b (by omega)]; exact this
  · exact ownsRow_keep (h.srow i hi hi) hkr fun b hb => by have := h.sR i hi hi b hb; omega
  · have := h.sR i hi hi b hb
    rw [hold b (by omega)]; exact this
  · refine PxAt.mono (PxAt.move (h.prow i hi hi) (hkr.mono fun b _ hb => by omega)) fun b _ hb => ?_
    rw [hold b (by omega)]; exact hb
  · exact ownsRow_base hn (Nat.zero_le _)
  · have h1 := hz b (hn.lt b hb).1
    simp only [h1, ne_eq, not_true_eq_false, if_false, hb, if_true]
  · rcases hm with ⟨e, e2⟩ | ⟨b, e, h3, h4, h5⟩
    · exact .inl ⟨e, e2⟩
    · refine .inr ⟨b, e, ?_, h5⟩
      have h1 := hz b (by omega)
      have h2 : ¬ nv'.ownBlock = some b := fun e => by have := hnM b e; omega
      simp only [h1, ne_eq, not_true_eq_false, if_false, h2, e, if_true]
end Go.Proofs.Ytioidaojnbenbaa
