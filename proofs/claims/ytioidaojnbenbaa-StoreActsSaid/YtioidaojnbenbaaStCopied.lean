/- A piece's copy. -/
import Derived.Test.YtioidaojnbenbaaStWeigh
import Derived.Test.YtioidaojnbenbaaOrdS
import Derived.Test.YtioidaojnbenbaaShelfN
namespace Go.Proofs.Ytioidaojnbenbaa
open Go.RowKit

set_option maxRecDepth 100000 in
theorem sclone_big (s : ByteArray) (w : World) (hs : s.size ≤ 281474976710656) :
    Calls Try.prog 52 #[.string s] w fun e w' => e = .returned (.string s) ∧ Below w.heap.size w w' := by
  go_enter Try.func52, Try.ntmps52
  go_wp2_with fail
  refine (Try.stringslite_Clone s _ hs).mono ?_
  rintro e w' ⟨rfl, hb⟩
  go_wp2_with fail
  go_ret
  exact ⟨rfl, hb⟩
theorem infoU3 : (Try.prog.info? 108).map (fun i => (i.zero, i.size, i.bytes)) = some (some (.int .u32 0), 1, 4) := by kernel_rfl
theorem infoIn : (Try.prog.info? 3).map (fun i => (i.zero, i.size, i.bytes)) = some (some (.int .i64 0), 1, 8) := by kernel_rfl
theorem infoStx : (Try.prog.info? 50).map (fun i => (i.zero, i.size)) = some (some (.agg #[.int .i64 0, .string ⟨#[]⟩, .bool false, .slice none 0 0, .slice none 0 0, .int .i64 0, .slice none 0 0, .slice none 0 0]), 8) := by kernel_rfl

set_option maxRecDepth 100000 in
theorem stownu_any (lv : Value) (n : Nat) (us : List Value) (w : World) (hr : RowV w lv n 1 us) (h1 : ∀ u ∈ us, u.oneCell' = true) (hl : n ≤ 2000000) :
    Calls Try.prog 61 #[lv] w fun e w' => ∃ v', e = .returned v' ∧ w'.ownsRow w.heap.size 108 1 v' n us ∧ Below w.heap.size w w' := by
  obtain ⟨i0, hi, hz0, hz1, hz2⟩ := info_parts infoU3
  have HR := Lib.hid hr
  obtain ⟨ao, cap, rfl⟩ : ∃ a c, lv = .slice a n c := by obtain ⟨_, _, a, c, e, _⟩ := hr; exact ⟨a, c, e⟩
  clear hr
  go_enter Try.func61, Try.ntmps61
  go_wp2_with (at_builtin; (refine wpList_append_row _ rfl _ _ 44 rfl w.heap.size 108 i0 _ 1 4 Try.underlying44 hi hz0 hz1 hz2 rfl (by decide) (.slice none 0 0) 0 [] rfl (World.ownsRow_nil _ _ _ _) _ n us rfl HR.out h1 (by unfold maxLen; omega) (by omega) (by simp) ?_); intro v' w1 hown1 hgrow hmv; rw [Nat.zero_add, List.nil_append] at hown1; have HO := Lib.hid hown1; have HG := Lib.hid hgrow; clear hown1 hgrow hmv)
  go_ret
  exact ⟨_, rfl, HO.out, (Below.refl _ _).grown HG.out (Nat.le_refl _) (fun q hq => by cases hq)⟩

set_option maxRecDepth 100000 in
theorem stowni_any (lv : Value) (n : Nat) (us : List Value) (w : World) (hr : RowV w lv n 1 us) (h1 : ∀ u ∈ us, u.oneCell' = true) (hl : n ≤ 2000000) :
    Calls Try.prog 62 #[lv] w fun e w' => ∃ v', e = .returned v' ∧ w'.ownsRow w.heap.size 3 1 v' n us ∧ Below w.heap.size w w' := by
  obtain ⟨i0, hi, hz0, hz1, hz2⟩ := info_parts infoIn
  have HR := Lib.hid hr
  obtain ⟨ao, cap, rfl⟩ : ∃ a c, lv = .slice a n c := by obtain ⟨_, _, a, c, e, _⟩ := hr; exact ⟨a, c, e⟩
  clear hr
  go_enter Try.func62, Try.ntmps62
  go_wp2_with (at_builtin; (refine wpList_append_row _ rfl _ _ 48 rfl w.heap.size 3 i0 _ 1 8 Try.underlying48 hi hz0 hz1 hz2 rfl (by decide) (.slice none 0 0) 0 [] rfl (World.ownsRow_nil _ _ _ _) _ n us rfl HR.out h1 (by unfold maxLen; omega) (by omega) (by simp) ?_); intro v' w1 hown1 hgrow hmv; rw [Nat.zero_add, List.nil_append] at hown1; have HO := Lib.hid hown1; have HG := Lib.hid hgrow; clear hown1 hgrow hmv)
  go_ret
  exact ⟨_, rfl, HO.out, (Below.refl _ _).grown HG.out (Nat.le_refl _) (fun q hq => by cases hq)⟩

theorem ucs_one (l : List Nat) : ∀ u ∈ ucs l, u.oneCell' = true := by intro u hu; obtain ⟨_, _, rfl⟩ := List.mem_map.1 hu; rfl
theorem ics_one (k : IntKind) (l : List Int) : ∀ u ∈ ics k l, u.oneCell' = true := by intro u hu; obtain ⟨_, _, rfl⟩ := List.mem_map.1 hu; rfl
set_option maxRecDepth 100000 in
theorem stownx_any (ao : Option Addr) (c : Nat) (w : World) (hr : RowV w (.slice ao 0 c) 0 8 []) :
    Calls Try.prog 63 #[.slice ao 0 c] w fun e w' => ∃ o k, e = .returned (.slice o 0 k) ∧ RowV w' (.slice o 0 k) 0 8 [] ∧ Below w.heap.size w w' := by
  obtain ⟨i0, hi, hz0, hz1⟩ : ∃ i, Try.prog.info? 50 = some i ∧ i.zero = some (.agg #[.int .i64 0, .string ⟨#[]⟩, .bool false, .slice none 0 0, .slice none 0 0, .int .i64 0, .slice none 0 0, .slice none 0 0]) ∧ i.size = 8 := by
    cases h : Try.prog.info? 50 with
    | none => have := infoStx; rw [h] at this; cases this
    | some i =>
      have := infoStx
      rw [h] at this
      simp only [Option.map_some, Option.some.injEq, Prod.mk.injEq] at this
      exact ⟨i, rfl, this.1, this.2⟩
  obtain ⟨by0, hby⟩ : ∃ b, i0.bytes = b := ⟨_, rfl⟩
  go_enter Try.func63, Try.ntmps63
  go_wp2_with (at_builtin; (refine wpList_append_row _ rfl _ _ 47 rfl w.heap.size 50 i0 _ 8 by0 Try.underlying47 hi hz0 hz1 hby rfl (by decide) (.slice none 0 0) 0 [] rfl (World.ownsRow_nil _ _ _ _) _ 0 [] rfl hr (by simp) (by simp) (by simp) (by simp) ?_); intro v' w1 hown1 hgrow hmv; simp only [Nat.add_zero, List.append_nil] at hown1; have HO := Lib.hid hown1; have HG := Lib.hid hgrow; clear hown1 hgrow hmv)
  go_ret
  obtain ⟨o, k, hv⟩ := own_dslice HO.out
  have hrow := RowV.of_own HO.out
  rw [hv] at hrow
  subst hv
  exact ⟨o, k, rfl, hrow, (Below.refl _ _).grown HG.out (Nat.le_refl _) (fun q hq => by cases hq)⟩
theorem own_far {w : World} {base n size : Nat} {e e2 : TypeId} {v : Value} {xs : List Value} (h : w.ownsRow base e size v n xs) {g : Nat} {cs : Array Value} (hg : w.heap[g]? = some (.cells cs e2 (0, 0))) (hne : e ≠ e2) : ∀ b, v.ownBlock = some b → b ≠ g := by
  intro b hb hbg
  subst hbg
  rcases h.2 with ⟨rfl, _⟩ | ⟨g', cap, cur, rfl, _, hh, _⟩
  · cases hb
  · injection hb with hb
    subst hb
    rw [hg] at hh
    injection hh with hh
    injection hh with _ h2 _
    exact hne h2.symm
theorem own_set {w : World} {base n size : Nat} {e e2 : TypeId} {v : Value} {xs : List Value} (h : w.ownsRow base e size v n xs) {g : Nat} {cs : Array Value} (hg : w.heap[g]? = some (.cells cs e2 (0, 0))) (hne : e ≠ e2) (o : Nat) (x : Value) : (w.setCell ⟨g, o, none⟩ x).ownsRow base e size v n xs :=
  ownsRow_keep h ((Keeps.refl (fun b => b ≠ g) w).set (p := ⟨g, o, none⟩) (fun h => h rfl) x) fun b hb => own_far h hg hne b hb
theorem put8 {W : World} {g : Nat} {a0 a1 a2 a3 a4 a5 a6 a7 : Value} {e : TypeId} (h : W.heap[g]? = some (.cells #[a0, a1, a2, a3, a4, a5, a6, a7] e (0, 0))) (b0 b1 b2 b3 b4 b5 b6 b7 : Value) : ((((((((W.setCell ⟨g, 0, none⟩ b0).setCell ⟨g, 1, none⟩ b1).setCell ⟨g, 2, none⟩ b2).setCell ⟨g, 3, none⟩ b3).setCell ⟨g, 4, none⟩ b4).setCell ⟨g, 5, none⟩ b5).setCell ⟨g, 6, none⟩ b6).setCell ⟨g, 7, none⟩ b7).heap[g]? = some (.cells #[b0, b1, b2, b3, b4, b5, b6, b7] e (0, 0)) :=
  (rowSet (rowSet (rowSet (rowSet (rowSet (rowSet (rowSet (rowSet h 0 b0) 1 b1) 2 b2) 3 b3) 4 b4) 5 b5) 6 b6) 7 b7).trans (by simp)
theorem keep8 {P : Nat → Prop} (W : World) (g : Nat) (hp : ¬ P g) (b0 b1 b2 b3 b4 b5 b6 b7 : Value) : Keeps P W ((((((((W.setCell ⟨g, 0, none⟩ b0).setCell ⟨g, 1, none⟩ b1).setCell ⟨g, 2, none⟩ b2).setCell ⟨g, 3, none⟩ b3).setCell ⟨g, 4, none⟩ b4).setCell ⟨g, 5, none⟩ b5).setCell ⟨g, 6, none⟩ b6).setCell ⟨g, 7, none⟩ b7) :=
  (((((((((Keeps.refl P W).set (p := ⟨g, 0, none⟩) hp b0).set (p := ⟨g, 1, none⟩) hp b1).set (p := ⟨g, 2, none⟩) hp b2).set (p := ⟨g, 3, none⟩) hp b3).set (p := ⟨g, 4, none⟩) hp b4).set (p := ⟨g, 5, none⟩) hp b5).set (p := ⟨g, 6, none⟩) hp b6).set (p := ⟨g, 7, none⟩) hp b7)
theorem below8 {B : Nat} {w W : World} (h : Below B w W) {g : Nat} (hg : B ≤ g) (b0 b1 b2 b3 b4 b5 b6 b7 : Value) : Below B w ((((((((W.setCell ⟨g, 0, none⟩ b0).setCell ⟨g, 1, none⟩ b1).setCell ⟨g, 2, none⟩ b2).setCell ⟨g, 3, none⟩ b3).setCell ⟨g, 4, none⟩ b4).setCell ⟨g, 5, none⟩ b5).setCell ⟨g, 6, none⟩ b6).setCell ⟨g, 7, none⟩ b7) :=
  (((((((h.setCell (p := ⟨g, 0, none⟩) hg b0).setCell (p := ⟨g, 1, none⟩) hg b1).setCell (p := ⟨g, 2, none⟩) hg b2).setCell (p := ⟨g, 3, none⟩) hg b3).setCell (p := ⟨g, 4, none⟩) hg b4).setCell (p := ⟨g, 5, none⟩) hg b5).setCell (p := ⟨g, 6, none⟩) hg b6).setCell (p := ⟨g, 7, none⟩) hg b7
def isOwn (B : Nat) (e : TypeId) (n : Nat) (us : List Value) : Value → World → Prop := fun v W => W.ownsRow B e 1 v n us
theorem isOwn_stays (B : Nat) (e : TypeId) (n : Nat) (us : List Value) : Stays (isOwn B e n us) := fun _ _ _ hb h => ownsRow_keep h (Keeps.of_below (P := fun _ => True) hb) fun _ _ => trivial
theorem news4 {w : World} {a b c d : Obj} : ((((w.alloc a).alloc b).alloc c).alloc d).heap[w.heap.size + 2]? = some c ∧ ((((w.alloc a).alloc b).alloc c).alloc d).heap[w.heap.size + 3]? = some d ∧ ((((w.alloc a).alloc b).alloc c).alloc d).heap[w.heap.size + 1]? = some b := by
  refine ⟨?_, ?_, ?_⟩
  · rw [Below.heap_alloc _ _ _ (by simp)]
    have := heap_alloc_new ((w.alloc a).alloc b) c
    simpa using this
  · have := heap_alloc_new (((w.alloc a).alloc b).alloc c) d
    simpa using this
  · rw [Below.heap_alloc _ _ _ (by simp), Below.heap_alloc _ _ _ (by simp)]
    have := heap_alloc_new (w.alloc a) b
    simpa using this

set_option maxRecDepth 100000 in
set_option maxHeartbeats 8000000 in
theorem stcopied_any (p : Px) (lv mv sv : Value) (ao : Option Addr) (ac : Nat) (w : World) (ht : p.t.size ≤ 281474976710656) (hl : RowV w lv p.lm.length 1 (ucs p.lm)) (ha : RowV w (.slice ao 0 ac) 0 8 []) (hm : RowV w mv p.ms.length 1 (ics .i64 p.ms)) (hs : RowV w sv p.sb.length 1 (ics .i64 p.sb)) (hll : p.lm.length ≤ 2000000) (hml : p.ms.length ≤ 2000000) (hsl : p.sb.length ≤ 2000000) :
    Calls Try.prog 49 #[.agg #[.int .i64 p.k, .string p.t, .bool p.ng, lv, .slice ao 0 ac, .int .i64 p.a, mv, sv]] w fun e w' => (∃ lv' o k mv' sv', e = .returned (.agg #[.int .i64 p.k, .string p.t, .bool p.ng, lv', .slice o 0 k, .int .i64 p.a, mv', sv']) ∧ w'.ownsRow w.heap.size 108 1 lv' p.lm.length (ucs p.lm) ∧ RowV w' (.slice o 0 k) 0 8 [] ∧ w'.ownsRow w.heap.size 3 1 mv' p.ms.length (ics .i64 p.ms) ∧ w'.ownsRow w.heap.size 3 1 sv' p.sb.length (ics .i64 p.sb)) ∧ Below w.heap.size w w' := by
  obtain ⟨i0, hi, hz0, hz1, hz2⟩ := info_parts infoSl
  have HI := Lib.hid (And.intro hi (And.intro hz0 (And.intro hz1 hz2)))
  clear hi hz0 hz1 hz2
  have HL := Lib.hid hl
  have HA := Lib.hid ha
  have HM := Lib.hid hm
  have HS := Lib.hid hs
  have HLN := Lib.hid (And.intro hll (And.intro hml hsl))
  have HTS := Lib.hid ht
  obtain ⟨lo, lc, hlv⟩ : ∃ a c, lv = .slice a p.lm.length c := by obtain ⟨_, _, a, c, e, _⟩ := hl; exact ⟨a, c, e⟩
  obtain ⟨mo, mc, hmv⟩ : ∃ a c, mv = .slice a p.ms.length c := by obtain ⟨_, _, a, c, e, _⟩ := hm; exact ⟨a, c, e⟩
  obtain ⟨so, sc, hsv⟩ : ∃ a c, sv = .slice a p.sb.length c := by obtain ⟨_, _, a, c, e, _⟩ := hs; exact ⟨a, c, e⟩
  obtain ⟨ll, hll2⟩ : ∃ n, n = p.lm.length := ⟨_, rfl⟩
  obtain ⟨ml, hml2⟩ : ∃ n, n = p.ms.length := ⟨_, rfl⟩
  obtain ⟨sl, hsl2⟩ : ∃ n, n = p.sb.length := ⟨_, rfl⟩
  rw [← hll2] at hlv HL HLN ⊢
  rw [← hml2] at hmv HM HLN ⊢
  rw [← hsl2] at hsv HS HLN ⊢
  subst hlv hmv hsv
  clear hl ha hm hs hll hml hsl ht hll2 hml2 hsl2
  obtain ⟨pk, pt, pn, plm, pa, pms, psb⟩ := p
  simp only at *
  have hn4 := @news4 w (.cells #[.int .i64 pk, .string pt, .bool pn, .slice lo ll lc, .slice ao 0 ac, .int .i64 pa, .slice mo ml mc, .slice so sl sc] 50) (.cells #[.int .i64 0, .string ⟨#[]⟩, .bool false, .slice none 0 0, .slice none 0 0, .int .i64 0, .slice none 0 0, .slice none 0 0] 50) (.cells #[.int .i64 pk, .string pt, .bool pn, .slice lo ll lc, .slice ao 0 ac, .int .i64 pa, .slice mo ml mc, .slice so sl sc] 50) (.cells #[.slice (some ⟨w.heap.size + 2, 0, none⟩) 1 1] 47)
  have hb4 := (below3 w (.cells #[.int .i64 pk, .string pt, .bool pn, .slice lo ll lc, .slice ao 0 ac, .int .i64 pa, .slice mo ml mc, .slice so sl sc] 50) (.cells #[.int .i64 0, .string ⟨#[]⟩, .bool false, .slice none 0 0, .slice none 0 0, .int .i64 0, .slice none 0 0, .slice none 0 0] 50) (.cells #[.int .i64 pk, .string pt, .bool pn, .slice lo ll lc, .slice ao 0 ac, .int .i64 pa, .slice mo ml mc, .slice so sl sc] 50)).alloc (by simp; omega) (.cells #[.slice (some ⟨w.heap.size + 2, 0, none⟩) 1 1] 47)
  have HB1 := Lib.hid hb4
  have R2 := Lib.hid hn4.1
  have R3 := Lib.hid hn4.2.1
  have R1 := Lib.hid hn4.2.2
  clear hn4 hb4
  go_enter Try.func49, Try.ntmps49
  go_upto_region 3 with fail
  generalize (((w.alloc (.cells #[.int .i64 pk, .string pt, .bool pn, .slice lo ll lc, .slice ao 0 ac, .int .i64 pa, .slice mo ml mc, .slice so sl sc] 50)).alloc (.cells #[.int .i64 0, .string ⟨#[]⟩, .bool false, .slice none 0 0, .slice none 0 0, .int .i64 0, .slice none 0 0, .slice none 0 0] 50)).alloc (.cells #[.int .i64 pk, .string pt, .bool pn, .slice lo ll lc, .slice ao 0 ac, .int .i64 pa, .slice mo ml mc, .slice so sl sc] 50)).alloc (.cells #[.slice (some ⟨w.heap.size + 2, 0, none⟩) 1 1] 47) = w1 at *
  refine wp_loop_rounds 3 ?_
  rw [rounds_succ]
  go_wp2_with fail
  refine (stlastx_any (w.heap.size + 3) 0 1 (.slice (some ⟨w.heap.size + 2, 0, none⟩) 1 1) w1 (cell_heap R3.out 0) ⟨_, _, _, rfl⟩ (by omega) (by omega)).mono ?_
  rintro e w2 ⟨rfl, hb2⟩
  have HB2 := Lib.hid (HB1.out.trans (hb2.mono HB1.out.size))
  have S1 := Lib.hid ((hb2.block _ (Array.getElem?_eq_some_iff.1 R1.out).1).trans R1.out)
  have S2 := Lib.hid ((hb2.block _ (Array.getElem?_eq_some_iff.1 R2.out).1).trans R2.out)
  have S3 := Lib.hid ((hb2.block _ (Array.getElem?_eq_some_iff.1 R3.out).1).trans R3.out)
  clear hb2 HB1 R1 R2 R3
  obtain ⟨c0, c1, c2, c3, c4, c5, c6, c7⟩ := row8 S2.out
  go_wp2_with fail
  refine wp_loop_rounds 2 ?_
  rw [rounds_succ]
  go_wp2_with fail
  refine (sclone_big pt w2 HTS.out).mono ?_
  rintro e w3 ⟨rfl, hb3⟩
  have HB3 := Lib.hid (HB2.out.trans (hb3.mono HB2.out.size))
  have T1 := Lib.hid ((hb3.block _ (Array.getElem?_eq_some_iff.1 S1.out).1).trans S1.out)
  have T2 := Lib.hid ((hb3.block _ (Array.getElem?_eq_some_iff.1 S2.out).1).trans S2.out)
  have T3 := Lib.hid ((hb3.block _ (Array.getElem?_eq_some_iff.1 S3.out).1).trans S3.out)
  clear hb3 HB2 S1 S2 S3 c0 c1 c2 c3 c4 c5 c6 c7
  have z1 := frozen_heap T2.out 1
  have c1 := cell_heap T2.out 1
  go_upto_region 11 with fail
  have HB4 : Hid (Below w.heap.size w (w3.setCell ⟨w.heap.size + 2, 1, none⟩ (.string pt))) := Lib.hid (HB3.out.setCell (by simp) _)
  have U2 : Hid ((w3.setCell ⟨w.heap.size + 2, 1, none⟩ (.string pt)).heap[w.heap.size + 2]? = some (.cells #[.int .i64 pk, .string pt, .bool pn, .slice lo ll lc, .slice ao 0 ac, .int .i64 pa, .slice mo ml mc, .slice so sl sc] 50 (0, 0))) := Lib.hid ((rowSet T2.out 1 (.string pt)).trans (by simp))
  have U1 := Lib.hid ((Below.heap_setCell w3 ⟨w.heap.size + 2, 1, none⟩ (.string pt) (w.heap.size + 1) (by simp)).trans T1.out)
  have U3 := Lib.hid ((Below.heap_setCell w3 ⟨w.heap.size + 2, 1, none⟩ (.string pt) (w.heap.size + 3) (by simp)).trans T3.out)
  clear z1 c1 T1 T2 T3 HB3
  generalize w3.setCell ⟨w.heap.size + 2, 1, none⟩ (.string pt) = w4 at *
  refine wp_region_seq ([(22, 8, fun v W => W.setCell ⟨w.heap.size + 2, 3, none⟩ v), (25, 13, fun v W => W.setCell ⟨w.heap.size + 2, 6, none⟩ v), (28, 18, fun v W => W.setCell ⟨w.heap.size + 2, 7, none⟩ v)] : List WrT) 22 (psi [isV (.pointer (some ⟨w.heap.size + 2, 0, none⟩)), isV (.pointer (some ⟨w.heap.size + 2, 0, none⟩)), isV (.pointer (some ⟨w.heap.size + 2, 0, none⟩)), isV (.pointer (some ⟨w.heap.size + 2, 0, none⟩)), isV (.pointer (some ⟨w.heap.size + 2, 0, none⟩)), isV (.pointer (some ⟨w.heap.size + 2, 2, none⟩)), isV (.pointer (some ⟨w.heap.size + 2, 3, none⟩)), isV (.slice lo ll lc), isOwn w.heap.size 108 ll (ucs plm), isV (.pointer (some ⟨w.heap.size + 2, 0, none⟩)), isV (.pointer (some ⟨w.heap.size + 2, 0, none⟩)), isV (.pointer (some ⟨w.heap.size + 2, 6, none⟩)), isV (.slice mo ml mc), isOwn w.heap.size 3 ml (ics .i64 pms), isV (.pointer (some ⟨w.heap.size + 2, 0, none⟩)), isV (.pointer (some ⟨w.heap.size + 2, 0, none⟩)), isV (.pointer (some ⟨w.heap.size + 2, 7, none⟩)), isV (.slice so sl sc), isOwn w.heap.size 3 sl (ics .i64 psb), isV (.pointer (some ⟨w.heap.size + 2, 0, none⟩)), isV (.pointer (some ⟨w.heap.size + 2, 2, none⟩)), isV (.pointer (some ⟨w.heap.size + 2, 3, none⟩)), nothing, isV (.pointer (some ⟨w.heap.size + 2, 0, none⟩)), isV (.pointer (some ⟨w.heap.size + 2, 6, none⟩)), nothing, isV (.pointer (some ⟨w.heap.size + 2, 0, none⟩)), isV (.pointer (some ⟨w.heap.size + 2, 7, none⟩)), nothing]) (fun W => Below w4.heap.size w4 W) (by kernel_rfl) (Below.refl _ _).drew (psi_mono ?_) (by kernel_rfl) (by kernel_rfl) rfl (by kernel_rfl) (by simp) (by intro y hy; simp only [List.mem_cons, List.not_mem_nil, or_false] at hy; rcases hy with rfl | rfl | rfl <;> rfl) (by intro y hy; simp only [List.mem_cons, List.not_mem_nil, or_false] at hy; rcases hy with rfl | rfl | rfl <;> rfl) ?_ ?_
  · intro pq hp
    simp only [List.mem_cons, List.not_mem_nil, or_false] at hp
    (repeat' rcases hp with rfl | hp) <;> first | exact isV_stays _ | exact nothing_stays | (subst hp; first | exact isV_stays _ | exact nothing_stays) | exact isOwn_stays _ _ _ _ | (subst hp; exact isOwn_stays _ _ _ _)
  · refine AllOps.cons ?_ ?_
    · refine .inr (.inl ⟨rfl, by kernel_rfl, fun ab W hC hB hdep => .inl ⟨rfl, ?_⟩⟩)
      have b0 : ab.tmps.getD 7 undef = .pointer (some ⟨w.heap.size + 2, 0, none⟩) := hB.off 7 (by kernel_rfl)
      clear hB hdep
      refine goes_value (v := .pointer (some ⟨w.heap.size + 2, 0, none⟩)) ?_ hC rfl
      simp only [execOp, Act.eval, b0]
      go_simp
    refine AllOps.cons ?_ ?_
    · refine .inr (.inr ⟨rfl, fun ab W W1 hC hB hdep => .inl ⟨rfl, ?_⟩⟩)
      have b0 : ab.tmps.getD 7 undef = .pointer (some ⟨w.heap.size + 2, 0, none⟩) := hB.off 7 (by kernel_rfl)
      clear hB hdep
      refine ⟨.pointer (some ⟨w.heap.size + 2, 0, none⟩), ?_, rfl⟩
      simp only [execOp, Act.eval, b0]
      go_simp
    refine AllOps.cons ?_ ?_
    · refine .inr (.inr ⟨rfl, fun ab W W1 hC hB hdep => .inl ⟨rfl, ?_⟩⟩)
      have b0 : ab.tmps.getD 7 undef = .pointer (some ⟨w.heap.size + 2, 0, none⟩) := hB.off 7 (by kernel_rfl)
      clear hB hdep
      refine ⟨.pointer (some ⟨w.heap.size + 2, 0, none⟩), ?_, rfl⟩
      simp only [execOp, Act.eval, b0]
      go_simp
    refine AllOps.cons ?_ ?_
    · refine .inr (.inl ⟨rfl, by kernel_rfl, fun ab W hC hB hdep => .inl ⟨rfl, ?_⟩⟩)
      have b0 : ab.tmps.getD 7 undef = .pointer (some ⟨w.heap.size + 2, 0, none⟩) := hB.off 7 (by kernel_rfl)
      clear hB hdep
      refine goes_value (v := .pointer (some ⟨w.heap.size + 2, 0, none⟩)) ?_ hC rfl
      simp only [execOp, Act.eval, b0]
      go_simp
    refine AllOps.cons ?_ ?_
    · refine .inr (.inl ⟨rfl, by kernel_rfl, fun ab W hC hB hdep => .inl ⟨rfl, ?_⟩⟩)
      obtain ⟨x0, (q0 : (isV (.pointer (some ⟨w.heap.size + 2, 0, none⟩))) x0 W), e0⟩ := hdep 3 39 (by kernel_rfl)
      obtain rfl : x0 = .pointer (some ⟨w.heap.size + 2, 0, none⟩) := q0
      clear hB hdep
      refine goes_value (v := .pointer (some ⟨w.heap.size + 2, 0, none⟩)) ?_ hC rfl
      simp only [execOp, Act.eval, e0]
      go_simp
    refine AllOps.cons ?_ ?_
    · refine .inr (.inl ⟨rfl, by kernel_rfl, fun ab W hC hB hdep => .inl ⟨rfl, ?_⟩⟩)
      obtain ⟨x0, (q0 : (isV (.pointer (some ⟨w.heap.size + 2, 0, none⟩))) x0 W), e0⟩ := hdep 4 40 (by kernel_rfl)
      obtain rfl : x0 = .pointer (some ⟨w.heap.size + 2, 0, none⟩) := q0
      clear hB hdep
      refine goes_value (v := .pointer (some ⟨w.heap.size + 2, 2, none⟩)) ?_ hC rfl
      simp only [execOp, Act.eval, e0]
      go_simp
    refine AllOps.cons ?_ ?_
    · refine .inr (.inl ⟨rfl, by kernel_rfl, fun ab W hC hB hdep => .inl ⟨rfl, ?_⟩⟩)
      obtain ⟨x0, (q0 : (isV (.pointer (some ⟨w.heap.size + 2, 2, none⟩))) x0 W), e0⟩ := hdep 5 41 (by kernel_rfl)
      obtain rfl : x0 = .pointer (some ⟨w.heap.size + 2, 2, none⟩) := q0
      clear hB hdep
      refine goes_value (v := .pointer (some ⟨w.heap.size + 2, 3, none⟩)) ?_ hC rfl
      simp only [execOp, Act.eval, e0]
      go_simp
    refine AllOps.cons ?_ ?_
    · refine .inr (.inl ⟨rfl, by kernel_rfl, fun ab W hC hB hdep => .inl ⟨rfl, ?_⟩⟩)
      obtain ⟨x0, (q0 : (isV (.pointer (some ⟨w.heap.size + 2, 3, none⟩))) x0 W), e0⟩ := hdep 6 42 (by kernel_rfl)
      obtain rfl : x0 = .pointer (some ⟨w.heap.size + 2, 3, none⟩) := q0
      obtain ⟨c0, c1, c2, c3, c4, c5, c6, c7⟩ := row8 ((hC.block _ (Array.getElem?_eq_some_iff.1 U2.out).1).trans U2.out)
      clear hB hdep
      refine goes_value (v := .slice lo ll lc) ?_ hC rfl
      simp only [execOp, Act.eval, e0]
      go_simp
    refine AllOps.cons ?_ ?_
    · refine .inr (.inl ⟨rfl, by kernel_rfl, fun ab W hC hB hdep => .inl ⟨rfl, ?_⟩⟩)
      obtain ⟨x0, (q0 : (isV (.slice lo ll lc)) x0 W), e0⟩ := hdep 7 43 (by kernel_rfl)
      obtain rfl : x0 = .slice lo ll lc := q0
      clear hB hdep
      refine goes_call (f := 61) (args := #[.slice lo ll lc]) ?_ ?_
      · simp only [execOp]
        go_simp
      · exact (stownu_any _ ll (ucs plm) W (HL.out.below (HB4.out.trans (hC.mono HB4.out.size))) (ucs_one _) HLN.out.1).mono fun e w7 ⟨v7, he, ho, hb⟩ => ⟨v7, he, hC.trans (hb.mono hC.size), hb, ownsRow_base ho (Nat.le_trans HB4.out.size hC.size)⟩
    refine AllOps.cons ?_ ?_
    · refine .inr (.inl ⟨rfl, by kernel_rfl, fun ab W hC hB hdep => .inl ⟨rfl, ?_⟩⟩)
      have b0 : ab.tmps.getD 7 undef = .pointer (some ⟨w.heap.size + 2, 0, none⟩) := hB.off 7 (by kernel_rfl)
      clear hB hdep
      refine goes_value (v := .pointer (some ⟨w.heap.size + 2, 0, none⟩)) ?_ hC rfl
      simp only [execOp, Act.eval, b0]
      go_simp
    refine AllOps.cons ?_ ?_
    · refine .inr (.inl ⟨rfl, by kernel_rfl, fun ab W hC hB hdep => .inl ⟨rfl, ?_⟩⟩)
      obtain ⟨x0, (q0 : (isV (.pointer (some ⟨w.heap.size + 2, 0, none⟩))) x0 W), e0⟩ := hdep 9 45 (by kernel_rfl)
      obtain rfl : x0 = .pointer (some ⟨w.heap.size + 2, 0, none⟩) := q0
      clear hB hdep
      refine goes_value (v := .pointer (some ⟨w.heap.size + 2, 0, none⟩)) ?_ hC rfl
      simp only [execOp, Act.eval, e0]
      go_simp
    refine AllOps.cons ?_ ?_
    · refine .inr (.inl ⟨rfl, by kernel_rfl, fun ab W hC hB hdep => .inl ⟨rfl, ?_⟩⟩)
      obtain ⟨x0, (q0 : (isV (.pointer (some ⟨w.heap.size + 2, 0, none⟩))) x0 W), e0⟩ := hdep 10 46 (by kernel_rfl)
      obtain rfl : x0 = .pointer (some ⟨w.heap.size + 2, 0, none⟩) := q0
      clear hB hdep
      refine goes_value (v := .pointer (some ⟨w.heap.size + 2, 6, none⟩)) ?_ hC rfl
      simp only [execOp, Act.eval, e0]
      go_simp
    refine AllOps.cons ?_ ?_
    · refine .inr (.inl ⟨rfl, by kernel_rfl, fun ab W hC hB hdep => .inl ⟨rfl, ?_⟩⟩)
      obtain ⟨x0, (q0 : (isV (.pointer (some ⟨w.heap.size + 2, 6, none⟩))) x0 W), e0⟩ := hdep 11 47 (by kernel_rfl)
      obtain rfl : x0 = .pointer (some ⟨w.heap.size + 2, 6, none⟩) := q0
      obtain ⟨c0, c1, c2, c3, c4, c5, c6, c7⟩ := row8 ((hC.block _ (Array.getElem?_eq_some_iff.1 U2.out).1).trans U2.out)
      clear hB hdep
      refine goes_value (v := .slice mo ml mc) ?_ hC rfl
      simp only [execOp, Act.eval, e0]
      go_simp
    refine AllOps.cons ?_ ?_
    · refine .inr (.inl ⟨rfl, by kernel_rfl, fun ab W hC hB hdep => .inl ⟨rfl, ?_⟩⟩)
      obtain ⟨x0, (q0 : (isV (.slice mo ml mc)) x0 W), e0⟩ := hdep 12 48 (by kernel_rfl)
      obtain rfl : x0 = .slice mo ml mc := q0
      clear hB hdep
      refine goes_call (f := 62) (args := #[.slice mo ml mc]) ?_ ?_
      · simp only [execOp]
        go_simp
      · exact (stowni_any _ ml (ics .i64 pms) W (HM.out.below (HB4.out.trans (hC.mono HB4.out.size))) (ics_one _ _) HLN.out.2.1).mono fun e w7 ⟨v7, he, ho, hb⟩ => ⟨v7, he, hC.trans (hb.mono hC.size), hb, ownsRow_base ho (Nat.le_trans HB4.out.size hC.size)⟩
    refine AllOps.cons ?_ ?_
    · refine .inr (.inl ⟨rfl, by kernel_rfl, fun ab W hC hB hdep => .inl ⟨rfl, ?_⟩⟩)
      have b0 : ab.tmps.getD 7 undef = .pointer (some ⟨w.heap.size + 2, 0, none⟩) := hB.off 7 (by kernel_rfl)
      clear hB hdep
      refine goes_value (v := .pointer (some ⟨w.heap.size + 2, 0, none⟩)) ?_ hC rfl
      simp only [execOp, Act.eval, b0]
      go_simp
    refine AllOps.cons ?_ ?_
    · refine .inr (.inl ⟨rfl, by kernel_rfl, fun ab W hC hB hdep => .inl ⟨rfl, ?_⟩⟩)
      obtain ⟨x0, (q0 : (isV (.pointer (some ⟨w.heap.size + 2, 0, none⟩))) x0 W), e0⟩ := hdep 14 50 (by kernel_rfl)
      obtain rfl : x0 = .pointer (some ⟨w.heap.size + 2, 0, none⟩) := q0
      clear hB hdep
      refine goes_value (v := .pointer (some ⟨w.heap.size + 2, 0, none⟩)) ?_ hC rfl
      simp only [execOp, Act.eval, e0]
      go_simp
    refine AllOps.cons ?_ ?_
    · refine .inr (.inl ⟨rfl, by kernel_rfl, fun ab W hC hB hdep => .inl ⟨rfl, ?_⟩⟩)
      obtain ⟨x0, (q0 : (isV (.pointer (some ⟨w.heap.size + 2, 0, none⟩))) x0 W), e0⟩ := hdep 15 51 (by kernel_rfl)
      obtain rfl : x0 = .pointer (some ⟨w.heap.size + 2, 0, none⟩) := q0
      clear hB hdep
      refine goes_value (v := .pointer (some ⟨w.heap.size + 2, 7, none⟩)) ?_ hC rfl
      simp only [execOp, Act.eval, e0]
      go_simp
    refine AllOps.cons ?_ ?_
    · refine .inr (.inl ⟨rfl, by kernel_rfl, fun ab W hC hB hdep => .inl ⟨rfl, ?_⟩⟩)
      obtain ⟨x0, (q0 : (isV (.pointer (some ⟨w.heap.size + 2, 7, none⟩))) x0 W), e0⟩ := hdep 16 52 (by kernel_rfl)
      obtain rfl : x0 = .pointer (some ⟨w.heap.size + 2, 7, none⟩) := q0
      obtain ⟨c0, c1, c2, c3, c4, c5, c6, c7⟩ := row8 ((hC.block _ (Array.getElem?_eq_some_iff.1 U2.out).1).trans U2.out)
      clear hB hdep
      refine goes_value (v := .slice so sl sc) ?_ hC rfl
      simp only [execOp, Act.eval, e0]
      go_simp
    refine AllOps.cons ?_ ?_
    · refine .inr (.inl ⟨rfl, by kernel_rfl, fun ab W hC hB hdep => .inl ⟨rfl, ?_⟩⟩)
      obtain ⟨x0, (q0 : (isV (.slice so sl sc)) x0 W), e0⟩ := hdep 17 53 (by kernel_rfl)
      obtain rfl : x0 = .slice so sl sc := q0
      clear hB hdep
      refine goes_call (f := 62) (args := #[.slice so sl sc]) ?_ ?_
      · simp only [execOp]
        go_simp
      · exact (stowni_any _ sl (ics .i64 psb) W (HS.out.below (HB4.out.trans (hC.mono HB4.out.size))) (ics_one _ _) HLN.out.2.2).mono fun e w7 ⟨v7, he, ho, hb⟩ => ⟨v7, he, hC.trans (hb.mono hC.size), hb, ownsRow_base ho (Nat.le_trans HB4.out.size hC.size)⟩
    refine AllOps.cons ?_ ?_
    · refine .inr (.inr ⟨rfl, fun ab W W1 hC hB hdep => .inl ⟨rfl, ?_⟩⟩)
      obtain ⟨x0, (q0 : (isV (.pointer (some ⟨w.heap.size + 2, 0, none⟩))) x0 W), e0⟩ := hdep 0 36 (by kernel_rfl)
      obtain rfl : x0 = .pointer (some ⟨w.heap.size + 2, 0, none⟩) := q0
      clear hB hdep
      refine ⟨.pointer (some ⟨w.heap.size + 2, 0, none⟩), ?_, rfl⟩
      simp only [execOp, Act.eval, e0]
      go_simp
    refine AllOps.cons ?_ ?_
    · refine .inr (.inr ⟨rfl, fun ab W W1 hC hB hdep => .inl ⟨rfl, ?_⟩⟩)
      obtain ⟨x0, (q0 : (isV (.pointer (some ⟨w.heap.size + 2, 0, none⟩))) x0 W), e0⟩ := hdep 19 55 (by kernel_rfl)
      obtain rfl : x0 = .pointer (some ⟨w.heap.size + 2, 0, none⟩) := q0
      clear hB hdep
      refine ⟨.pointer (some ⟨w.heap.size + 2, 2, none⟩), ?_, rfl⟩
      simp only [execOp, Act.eval, e0]
      go_simp
    refine AllOps.cons ?_ ?_
    · refine .inr (.inr ⟨rfl, fun ab W W1 hC hB hdep => .inl ⟨rfl, ?_⟩⟩)
      obtain ⟨x0, (q0 : (isV (.pointer (some ⟨w.heap.size + 2, 2, none⟩))) x0 W), e0⟩ := hdep 20 56 (by kernel_rfl)
      obtain rfl : x0 = .pointer (some ⟨w.heap.size + 2, 2, none⟩) := q0
      clear hB hdep
      refine ⟨.pointer (some ⟨w.heap.size + 2, 3, none⟩), ?_, rfl⟩
      simp only [execOp, Act.eval, e0]
      go_simp
    refine AllOps.cons ?_ ?_
    · refine .inl ⟨[], _, _, rfl, rfl, ⟨44, by kernel_rfl⟩, fun vals ab W hC hB hdep => ⟨rfl, ?_⟩⟩
      obtain ⟨(q0 : (isV (.pointer (some ⟨w.heap.size + 2, 3, none⟩))) (vals 21) W), e0⟩ := hdep 21 57 (by kernel_rfl)
      obtain ⟨(q1 : (isOwn w.heap.size 108 ll (ucs plm)) (vals 8) W), e1⟩ := hdep 8 44 (by kernel_rfl)
      clear hB hdep
      have q0 : vals 21 = .pointer (some ⟨w.heap.size + 2, 3, none⟩) := q0
      obtain ⟨xo, xc, hxv⟩ := own_dslice q1
      have hz := frozen_heap ((hC.block _ (Array.getElem?_eq_some_iff.1 U2.out).1).trans U2.out) 3
      obtain ⟨c0, c1, c2, c3, c4, c5, c6, c7⟩ := row8 ((hC.block _ (Array.getElem?_eq_some_iff.1 U2.out).1).trans U2.out)
      rw [q0] at e0
      rw [hxv] at e1 ⊢
      simp only [runAll, List.foldl]
      simp only [execOp, Act.eval, e0, e1]
      go_simp
    refine AllOps.cons ?_ ?_
    · refine .inr (.inr ⟨rfl, fun ab W W1 hC hB hdep => .inl ⟨rfl, ?_⟩⟩)
      obtain ⟨x0, (q0 : (isV (.pointer (some ⟨w.heap.size + 2, 0, none⟩))) x0 W), e0⟩ := hdep 1 37 (by kernel_rfl)
      obtain rfl : x0 = .pointer (some ⟨w.heap.size + 2, 0, none⟩) := q0
      clear hB hdep
      refine ⟨.pointer (some ⟨w.heap.size + 2, 0, none⟩), ?_, rfl⟩
      simp only [execOp, Act.eval, e0]
      go_simp
    refine AllOps.cons ?_ ?_
    · refine .inr (.inr ⟨rfl, fun ab W W1 hC hB hdep => .inl ⟨rfl, ?_⟩⟩)
      obtain ⟨x0, (q0 : (isV (.pointer (some ⟨w.heap.size + 2, 0, none⟩))) x0 W), e0⟩ := hdep 23 58 (by kernel_rfl)
      obtain rfl : x0 = .pointer (some ⟨w.heap.size + 2, 0, none⟩) := q0
      clear hB hdep
      refine ⟨.pointer (some ⟨w.heap.size + 2, 6, none⟩), ?_, rfl⟩
      simp only [execOp, Act.eval, e0]
      go_simp
    refine AllOps.cons ?_ ?_
    · refine .inl ⟨[(22, 8, fun v W => W.setCell ⟨w.heap.size + 2, 3, none⟩ v)], _, _, rfl, rfl, ⟨49, by kernel_rfl⟩, fun vals ab W hC hB hdep => ⟨rfl, ?_⟩⟩
      obtain ⟨(q0 : (isV (.pointer (some ⟨w.heap.size + 2, 6, none⟩))) (vals 24) W), e0⟩ := hdep 24 59 (by kernel_rfl)
      obtain ⟨(q1 : (isOwn w.heap.size 3 ml (ics .i64 pms)) (vals 13) W), e1⟩ := hdep 13 49 (by kernel_rfl)
      clear hB hdep
      have q0 : vals 24 = .pointer (some ⟨w.heap.size + 2, 6, none⟩) := q0
      obtain ⟨xo, xc, hxv⟩ := own_dslice q1
      have hz := frozen_heap (rowSet ((hC.block _ (Array.getElem?_eq_some_iff.1 U2.out).1).trans U2.out) 3 (vals 8)) 6
      obtain ⟨c0, c1, c2, c3, c4, c5, c6, c7⟩ := row8 ((hC.block _ (Array.getElem?_eq_some_iff.1 U2.out).1).trans U2.out)
      rw [q0] at e0
      rw [hxv] at e1 ⊢
      simp only [runAll, List.foldl]
      simp only [execOp, Act.eval, e0, e1]
      go_simp
    refine AllOps.cons ?_ ?_
    · refine .inr (.inr ⟨rfl, fun ab W W1 hC hB hdep => .inl ⟨rfl, ?_⟩⟩)
      obtain ⟨x0, (q0 : (isV (.pointer (some ⟨w.heap.size + 2, 0, none⟩))) x0 W), e0⟩ := hdep 2 38 (by kernel_rfl)
      obtain rfl : x0 = .pointer (some ⟨w.heap.size + 2, 0, none⟩) := q0
      clear hB hdep
      refine ⟨.pointer (some ⟨w.heap.size + 2, 0, none⟩), ?_, rfl⟩
      simp only [execOp, Act.eval, e0]
      go_simp
    refine AllOps.cons ?_ ?_
    · refine .inr (.inr ⟨rfl, fun ab W W1 hC hB hdep => .inl ⟨rfl, ?_⟩⟩)
      obtain ⟨x0, (q0 : (isV (.pointer (some ⟨w.heap.size + 2, 0, none⟩))) x0 W), e0⟩ := hdep 26 60 (by kernel_rfl)
      obtain rfl : x0 = .pointer (some ⟨w.heap.size + 2, 0, none⟩) := q0
      clear hB hdep
      refine ⟨.pointer (some ⟨w.heap.size + 2, 7, none⟩), ?_, rfl⟩
      simp only [execOp, Act.eval, e0]
      go_simp
    refine AllOps.cons ?_ ?_
    · refine .inl ⟨[(22, 8, fun v W => W.setCell ⟨w.heap.size + 2, 3, none⟩ v), (25, 13, fun v W => W.setCell ⟨w.heap.size + 2, 6, none⟩ v)], _, _, rfl, rfl, ⟨54, by kernel_rfl⟩, fun vals ab W hC hB hdep => ⟨rfl, ?_⟩⟩
      obtain ⟨(q0 : (isV (.pointer (some ⟨w.heap.size + 2, 7, none⟩))) (vals 27) W), e0⟩ := hdep 27 61 (by kernel_rfl)
      obtain ⟨(q1 : (isOwn w.heap.size 3 sl (ics .i64 psb)) (vals 18) W), e1⟩ := hdep 18 54 (by kernel_rfl)
      clear hB hdep
      have q0 : vals 27 = .pointer (some ⟨w.heap.size + 2, 7, none⟩) := q0
      obtain ⟨xo, xc, hxv⟩ := own_dslice q1
      have hz := frozen_heap (rowSet (rowSet ((hC.block _ (Array.getElem?_eq_some_iff.1 U2.out).1).trans U2.out) 3 (vals 8)) 6 (vals 13)) 7
      obtain ⟨c0, c1, c2, c3, c4, c5, c6, c7⟩ := row8 ((hC.block _ (Array.getElem?_eq_some_iff.1 U2.out).1).trans U2.out)
      rw [q0] at e0
      rw [hxv] at e1 ⊢
      simp only [runAll, List.foldl]
      simp only [execOp, Act.eval, e0, e1]
      go_simp
    exact trivial
  · intro vals aa W0 hC hB hall
    obtain ⟨(k0 : (isV (.pointer (some ⟨w.heap.size + 2, 0, none⟩))) (vals 0) W0), e0⟩ := hall 0 _ rfl rfl
    obtain ⟨(k1 : (isV (.pointer (some ⟨w.heap.size + 2, 0, none⟩))) (vals 1) W0), e1⟩ := hall 1 _ rfl rfl
    obtain ⟨(k2 : (isV (.pointer (some ⟨w.heap.size + 2, 0, none⟩))) (vals 2) W0), e2⟩ := hall 2 _ rfl rfl
    obtain ⟨(k3 : (isV (.pointer (some ⟨w.heap.size + 2, 0, none⟩))) (vals 3) W0), e3⟩ := hall 3 _ rfl rfl
    obtain ⟨(k4 : (isV (.pointer (some ⟨w.heap.size + 2, 0, none⟩))) (vals 4) W0), e4⟩ := hall 4 _ rfl rfl
    obtain ⟨(k5 : (isV (.pointer (some ⟨w.heap.size + 2, 2, none⟩))) (vals 5) W0), e5⟩ := hall 5 _ rfl rfl
    obtain ⟨(k6 : (isV (.pointer (some ⟨w.heap.size + 2, 3, none⟩))) (vals 6) W0), e6⟩ := hall 6 _ rfl rfl
    obtain ⟨(k7 : (isV (.slice lo ll lc)) (vals 7) W0), e7⟩ := hall 7 _ rfl rfl
    obtain ⟨(k8 : (isOwn w.heap.size 108 ll (ucs plm)) (vals 8) W0), e8⟩ := hall 8 _ rfl rfl
    obtain ⟨(k9 : (isV (.pointer (some ⟨w.heap.size + 2, 0, none⟩))) (vals 9) W0), e9⟩ := hall 9 _ rfl rfl
    obtain ⟨(k10 : (isV (.pointer (some ⟨w.heap.size + 2, 0, none⟩))) (vals 10) W0), e10⟩ := hall 10 _ rfl rfl
    obtain ⟨(k11 : (isV (.pointer (some ⟨w.heap.size + 2, 6, none⟩))) (vals 11) W0), e11⟩ := hall 11 _ rfl rfl
    obtain ⟨(k12 : (isV (.slice mo ml mc)) (vals 12) W0), e12⟩ := hall 12 _ rfl rfl
    obtain ⟨(k13 : (isOwn w.heap.size 3 ml (ics .i64 pms)) (vals 13) W0), e13⟩ := hall 13 _ rfl rfl
    obtain ⟨(k14 : (isV (.pointer (some ⟨w.heap.size + 2, 0, none⟩))) (vals 14) W0), e14⟩ := hall 14 _ rfl rfl
    obtain ⟨(k15 : (isV (.pointer (some ⟨w.heap.size + 2, 0, none⟩))) (vals 15) W0), e15⟩ := hall 15 _ rfl rfl
    obtain ⟨(k16 : (isV (.pointer (some ⟨w.heap.size + 2, 7, none⟩))) (vals 16) W0), e16⟩ := hall 16 _ rfl rfl
    obtain ⟨(k17 : (isV (.slice so sl sc)) (vals 17) W0), e17⟩ := hall 17 _ rfl rfl
    obtain ⟨(k18 : (isOwn w.heap.size 3 sl (ics .i64 psb)) (vals 18) W0), e18⟩ := hall 18 _ rfl rfl
    obtain ⟨(k19 : (isV (.pointer (some ⟨w.heap.size + 2, 0, none⟩))) (vals 19) W0), e19⟩ := hall 19 _ rfl rfl
    obtain ⟨(k20 : (isV (.pointer (some ⟨w.heap.size + 2, 2, none⟩))) (vals 20) W0), e20⟩ := hall 20 _ rfl rfl
    obtain ⟨(k21 : (isV (.pointer (some ⟨w.heap.size + 2, 3, none⟩))) (vals 21) W0), e21⟩ := hall 21 _ rfl rfl
    obtain ⟨(k23 : (isV (.pointer (some ⟨w.heap.size + 2, 0, none⟩))) (vals 23) W0), e23⟩ := hall 23 _ rfl rfl
    obtain ⟨(k24 : (isV (.pointer (some ⟨w.heap.size + 2, 6, none⟩))) (vals 24) W0), e24⟩ := hall 24 _ rfl rfl
    obtain ⟨(k26 : (isV (.pointer (some ⟨w.heap.size + 2, 0, none⟩))) (vals 26) W0), e26⟩ := hall 26 _ rfl rfl
    obtain ⟨(k27 : (isV (.pointer (some ⟨w.heap.size + 2, 7, none⟩))) (vals 27) W0), e27⟩ := hall 27 _ rfl rfl
    have hv : ∀ pq ∈ [((36 : Nat), (.pointer (some ⟨w.heap.size + 2, 0, none⟩) : Value)), ((37 : Nat), (.pointer (some ⟨w.heap.size + 2, 0, none⟩) : Value)), ((38 : Nat), (.pointer (some ⟨w.heap.size + 2, 0, none⟩) : Value)), ((39 : Nat), (.pointer (some ⟨w.heap.size + 2, 0, none⟩) : Value)), ((40 : Nat), (.pointer (some ⟨w.heap.size + 2, 0, none⟩) : Value)), ((41 : Nat), (.pointer (some ⟨w.heap.size + 2, 2, none⟩) : Value)), ((42 : Nat), (.pointer (some ⟨w.heap.size + 2, 3, none⟩) : Value)), ((43 : Nat), (.slice lo ll lc : Value)), ((44 : Nat), (vals 8 : Value)), ((45 : Nat), (.pointer (some ⟨w.heap.size + 2, 0, none⟩) : Value)), ((46 : Nat), (.pointer (some ⟨w.heap.size + 2, 0, none⟩) : Value)), ((47 : Nat), (.pointer (some ⟨w.heap.size + 2, 6, none⟩) : Value)), ((48 : Nat), (.slice mo ml mc : Value)), ((49 : Nat), (vals 13 : Value)), ((50 : Nat), (.pointer (some ⟨w.heap.size + 2, 0, none⟩) : Value)), ((51 : Nat), (.pointer (some ⟨w.heap.size + 2, 0, none⟩) : Value)), ((52 : Nat), (.pointer (some ⟨w.heap.size + 2, 7, none⟩) : Value)), ((53 : Nat), (.slice so sl sc : Value)), ((54 : Nat), (vals 18 : Value)), ((55 : Nat), (.pointer (some ⟨w.heap.size + 2, 0, none⟩) : Value)), ((56 : Nat), (.pointer (some ⟨w.heap.size + 2, 2, none⟩) : Value)), ((57 : Nat), (.pointer (some ⟨w.heap.size + 2, 3, none⟩) : Value)), ((58 : Nat), (.pointer (some ⟨w.heap.size + 2, 0, none⟩) : Value)), ((59 : Nat), (.pointer (some ⟨w.heap.size + 2, 6, none⟩) : Value)), ((60 : Nat), (.pointer (some ⟨w.heap.size + 2, 0, none⟩) : Value)), ((61 : Nat), (.pointer (some ⟨w.heap.size + 2, 7, none⟩) : Value))], aa.tmps.getD pq.1 undef = pq.2 := by
      intro pq hp
      simp only [List.mem_cons, List.not_mem_nil, or_false] at hp
      rcases hp with rfl | rfl | rfl | rfl | rfl | rfl | rfl | rfl | rfl | rfl | rfl | rfl | rfl | rfl | rfl | rfl | rfl | rfl | rfl | rfl | rfl | rfl | rfl | rfl | rfl | rfl
      · exact (e0 _ rfl).trans k0
      · exact (e1 _ rfl).trans k1
      · exact (e2 _ rfl).trans k2
      · exact (e3 _ rfl).trans k3
      · exact (e4 _ rfl).trans k4
      · exact (e5 _ rfl).trans k5
      · exact (e6 _ rfl).trans k6
      · exact (e7 _ rfl).trans k7
      · exact e8 _ rfl
      · exact (e9 _ rfl).trans k9
      · exact (e10 _ rfl).trans k10
      · exact (e11 _ rfl).trans k11
      · exact (e12 _ rfl).trans k12
      · exact e13 _ rfl
      · exact (e14 _ rfl).trans k14
      · exact (e15 _ rfl).trans k15
      · exact (e16 _ rfl).trans k16
      · exact (e17 _ rfl).trans k17
      · exact e18 _ rfl
      · exact (e19 _ rfl).trans k19
      · exact (e20 _ rfl).trans k20
      · exact (e21 _ rfl).trans k21
      · exact (e23 _ rfl).trans k23
      · exact (e24 _ rfl).trans k24
      · exact (e26 _ rfl).trans k26
      · exact (e27 _ rfl).trans k27
    have hact := act_fold _ hB hv (by kernel_rfl)
    subst hact
    have r0 := (hC.block _ (Array.getElem?_eq_some_iff.1 U2.out).1).trans U2.out
    have u1 := (hC.block _ (Array.getElem?_eq_some_iff.1 U1.out).1).trans U1.out
    have u3 := (hC.block _ (Array.getElem?_eq_some_iff.1 U3.out).1).trans U3.out
    have K8 : W0.ownsRow w.heap.size 108 1 (vals 8) ll (ucs plm) := k8
    have K13 : W0.ownsRow w.heap.size 3 1 (vals 13) ml (ics .i64 pms) := k13
    have K18 : W0.ownsRow w.heap.size 3 1 (vals 18) sl (ics .i64 psb) := k18
    have hbW := HB4.out.trans (hC.mono HB4.out.size)
    clear hv hall hB hC k0 k1 k2 k3 k4 k5 k6 k7 k8 k9 k10 k11 k12 k13 k14 k15 k16 k17 k18 e0 e1 e2 e3 e4 e5 e6 e7 e8 e9 e10 e11 e12 e13 e14 e15 e16 e17 e18 k19 k20 k21 k23 k24 k26 k27 e19 e20 e21 e23 e24 e26 e27
    refine (‹∀ (a : Act) (w : World), Code.wp Try.prog _ _ a w → _›) _ _ ?_
    simp only [runAll, List.foldl, List.setIfInBounds_toArray, List.set_cons_succ, List.set_cons_zero]
    generalize vals 8 = x8 at *
    generalize vals 13 = x13 at *
    generalize vals 18 = x18 at *
    obtain ⟨l8, c8, hx8⟩ := own_dslice K8
    obtain ⟨l13, c13, hx13⟩ := own_dslice K13
    obtain ⟨l18, c18, hx18⟩ := own_dslice K18
    subst hx8 hx13 hx18
    have r1 : (W0.setCell ⟨w.heap.size + 2, 3, none⟩ (.slice l8 ll c8)).heap[w.heap.size + 2]? = some (.cells #[.int .i64 pk, .string pt, .bool pn, .slice l8 ll c8, .slice ao 0 ac, .int .i64 pa, .slice mo ml mc, .slice so sl sc] 50 (0, 0)) := (rowSet r0 3 _).trans (by simp)
    have r2 : ((W0.setCell ⟨w.heap.size + 2, 3, none⟩ (.slice l8 ll c8)).setCell ⟨w.heap.size + 2, 6, none⟩ (.slice l13 ml c13)).heap[w.heap.size + 2]? = some (.cells #[.int .i64 pk, .string pt, .bool pn, .slice l8 ll c8, .slice ao 0 ac, .int .i64 pa, .slice l13 ml c13, .slice so sl sc] 50 (0, 0)) := (rowSet r1 6 _).trans (by simp)
    have r3 : (((W0.setCell ⟨w.heap.size + 2, 3, none⟩ (.slice l8 ll c8)).setCell ⟨w.heap.size + 2, 6, none⟩ (.slice l13 ml c13)).setCell ⟨w.heap.size + 2, 7, none⟩ (.slice l18 sl c18)).heap[w.heap.size + 2]? = some (.cells #[.int .i64 pk, .string pt, .bool pn, .slice l8 ll c8, .slice ao 0 ac, .int .i64 pa, .slice l13 ml c13, .slice l18 sl c18] 50 (0, 0)) := (rowSet r2 7 _).trans (by simp)
    have H8 := Lib.hid (own_set (own_set (own_set K8 r0 (by decide) 3 (.slice l8 ll c8)) r1 (by decide) 6 (.slice l13 ml c13)) r2 (by decide) 7 (.slice l18 sl c18))
    have H13 := Lib.hid (own_set (own_set (own_set K13 r0 (by decide) 3 (.slice l8 ll c8)) r1 (by decide) 6 (.slice l13 ml c13)) r2 (by decide) 7 (.slice l18 sl c18))
    have H18 := Lib.hid (own_set (own_set (own_set K18 r0 (by decide) 3 (.slice l8 ll c8)) r1 (by decide) 6 (.slice l13 ml c13)) r2 (by decide) 7 (.slice l18 sl c18))
    have V1 : Hid ((((W0.setCell ⟨w.heap.size + 2, 3, none⟩ (.slice l8 ll c8)).setCell ⟨w.heap.size + 2, 6, none⟩ (.slice l13 ml c13)).setCell ⟨w.heap.size + 2, 7, none⟩ (.slice l18 sl c18)).heap[w.heap.size + 1]? = some (.cells #[.int .i64 0, .string ⟨#[]⟩, .bool false, .slice none 0 0, .slice none 0 0, .int .i64 0, .slice none 0 0, .slice none 0 0] 50 (0, 0))) := Lib.hid ((Below.heap_setCell _ _ _ _ (by simp)).trans ((Below.heap_setCell _ _ _ _ (by simp)).trans ((Below.heap_setCell _ _ _ _ (by simp)).trans u1)))
    have V3 : Hid ((((W0.setCell ⟨w.heap.size + 2, 3, none⟩ (.slice l8 ll c8)).setCell ⟨w.heap.size + 2, 6, none⟩ (.slice l13 ml c13)).setCell ⟨w.heap.size + 2, 7, none⟩ (.slice l18 sl c18)).heap[w.heap.size + 3]? = some (.cells #[.slice (some ⟨w.heap.size + 2, 0, none⟩) 1 1] 47 (0, 0))) := Lib.hid ((Below.heap_setCell _ _ _ _ (by simp)).trans ((Below.heap_setCell _ _ _ _ (by simp)).trans ((Below.heap_setCell _ _ _ _ (by simp)).trans u3)))
    have V2 := Lib.hid r3
    have HB5 : Hid (Below w.heap.size w (((W0.setCell ⟨w.heap.size + 2, 3, none⟩ (.slice l8 ll c8)).setCell ⟨w.heap.size + 2, 6, none⟩ (.slice l13 ml c13)).setCell ⟨w.heap.size + 2, 7, none⟩ (.slice l18 sl c18))) := Lib.hid (((hbW.setCell (by simp) _).setCell (by simp) _).setCell (by simp) _)
    clear r0 r1 r2 r3 u1 u3 K8 K13 K18 hbW U1 U2 U3 HB4
    generalize ((W0.setCell ⟨w.heap.size + 2, 3, none⟩ (.slice l8 ll c8)).setCell ⟨w.heap.size + 2, 6, none⟩ (.slice l13 ml c13)).setCell ⟨w.heap.size + 2, 7, none⟩ (.slice l18 sl c18) = w5 at *
    obtain ⟨c0, c1, c2, c3, c4, c5, c6, c7⟩ := row8 V2.out
    go_wp2_with fail
    refine (stownx_any ao ac w5 (HA.out.below HB5.out)).mono ?_
    rintro e w6 ⟨o, k, rfl, hro, hb6⟩
    have HB6 := Lib.hid (HB5.out.trans (hb6.mono HB5.out.size))
    have X1 := Lib.hid ((hb6.block _ (Array.getElem?_eq_some_iff.1 V1.out).1).trans V1.out)
    have X2 := Lib.hid ((hb6.block _ (Array.getElem?_eq_some_iff.1 V2.out).1).trans V2.out)
    have X3 := Lib.hid ((hb6.block _ (Array.getElem?_eq_some_iff.1 V3.out).1).trans V3.out)
    have J8 := Lib.hid (ownsRow_keep H8.out (Keeps.of_below (P := fun _ => True) hb6) fun _ _ => trivial)
    have J13 := Lib.hid (ownsRow_keep H13.out (Keeps.of_below (P := fun _ => True) hb6) fun _ _ => trivial)
    have J18 := Lib.hid (ownsRow_keep H18.out (Keeps.of_below (P := fun _ => True) hb6) fun _ _ => trivial)
    have HRO := Lib.hid hro
    clear hro hb6 c0 c1 c2 c3 c4 c5 c6 c7 H8 H13 H18 V1 V2 V3 HB5
    have c4 := cell_heap X2.out 4
    have z4 := frozen_heap X2.out 4
    go_upto_region 13 with fail
    have Y2 : Hid ((w6.setCell ⟨w.heap.size + 2, 4, none⟩ (.slice o 0 k)).heap[w.heap.size + 2]? = some (.cells #[.int .i64 pk, .string pt, .bool pn, .slice l8 ll c8, .slice o 0 k, .int .i64 pa, .slice l13 ml c13, .slice l18 sl c18] 50 (0, 0))) := Lib.hid ((rowSet X2.out 4 _).trans (by simp))
    have Y1 := Lib.hid ((Below.heap_setCell w6 ⟨w.heap.size + 2, 4, none⟩ (.slice o 0 k) (w.heap.size + 1) (by simp)).trans X1.out)
    have Y3 := Lib.hid ((Below.heap_setCell w6 ⟨w.heap.size + 2, 4, none⟩ (.slice o 0 k) (w.heap.size + 3) (by simp)).trans X3.out)
    have G8 := Lib.hid (own_set J8.out X2.out (by decide) 4 (.slice o 0 k))
    have G13 := Lib.hid (own_set J13.out X2.out (by decide) 4 (.slice o 0 k))
    have G18 := Lib.hid (own_set J18.out X2.out (by decide) 4 (.slice o 0 k))
    have HRO2 : Hid (RowV (w6.setCell ⟨w.heap.size + 2, 4, none⟩ (.slice o 0 k)) (.slice o 0 k) 0 8 []) := Lib.hid (HRO.out.move (P := fun _ => False) (fun _ h => absurd rfl h) ⟨by simp, fun _ _ h => h.elim⟩)
    have HB7 := Lib.hid (HB6.out.setCell (p := ⟨w.heap.size + 2, 4, none⟩) (by simp) (.slice o 0 k))
    clear c4 z4 X1 X2 X3 J8 J13 J18 HRO HB6
    generalize w6.setCell ⟨w.heap.size + 2, 4, none⟩ (.slice o 0 k) = w7 at *
    have c4 := cell_heap Y2.out 4
    simp only [List.getElem?_toArray, List.getElem?_cons_succ, List.getElem?_cons_zero] at c4
    obtain ⟨hi, hz0, hz1, hz2⟩ := HI.out
    have HOW : Hid ((w7.alloc (.cells #[.slice o 0 k] 47)).ownsRow w.heap.size 47 1 (.slice (some ⟨w.heap.size + 3, 0, none⟩) 0 1) 0 []) := Lib.hid ⟨rfl, .inr ⟨w.heap.size + 3, 1, #[.slice (some ⟨w.heap.size + 2, 0, none⟩) 1 1], rfl, by omega, (Below.heap_alloc _ _ _ (Array.getElem?_eq_some_iff.1 Y3.out).1).trans Y3.out, by omega, by unfold maxLen; omega, rfl, rfl⟩⟩
    have HRV : Hid (RowV (w7.alloc (.cells #[.slice o 0 k] 47)) (.slice (some ⟨w7.heap.size, 0, none⟩) 1 1) 1 1 [.slice o 0 k]) := Lib.hid ⟨rfl, by unfold maxLen; omega, _, _, rfl, Nat.le_refl _, .inr ⟨w7.heap.size, 0, rfl, by simp, fun j u hu => by
      rw [cell_of_row _ w7.heap.size (0 + j) _ _ (0, 0) (heap_alloc_new w7 _), Nat.zero_add]
      simpa using hu⟩⟩
    have hal := below1 w7 (.cells #[.slice o 0 k] 47)
    have HB8 := Lib.hid (HB7.out.alloc HB7.out.size (.cells #[.slice o 0 k] 47))
    have Z1 := Lib.hid ((hal.block _ (Array.getElem?_eq_some_iff.1 Y1.out).1).trans Y1.out)
    have Z2 := Lib.hid ((hal.block _ (Array.getElem?_eq_some_iff.1 Y2.out).1).trans Y2.out)
    have E8 := Lib.hid (ownsRow_keep G8.out (Keeps.of_below (P := fun _ => True) hal) fun _ _ => trivial)
    have E13 := Lib.hid (ownsRow_keep G13.out (Keeps.of_below (P := fun _ => True) hal) fun _ _ => trivial)
    have E18 := Lib.hid (ownsRow_keep G18.out (Keeps.of_below (P := fun _ => True) hal) fun _ _ => trivial)
    have ERO := Lib.hid (HRO2.out.below hal)
    have Z3 := Lib.hid ((hal.block _ (Array.getElem?_eq_some_iff.1 Y3.out).1).trans Y3.out)
    clear hal Y1 Y2 Y3 G8 G13 G18 HRO2 HB7
    go_wp2_with (at_builtin; (refine wpList_append_row _ rfl _ _ 104 rfl w.heap.size 47 i0 (.slice none 0 0) 1 24 Try.underlying104 hi hz0 hz1 hz2 rfl (by decide) _ 0 [] rfl HOW.out _ 1 [.slice o 0 k] rfl HRV.out (by intro u hu; simp only [List.mem_singleton] at hu; subst hu; rfl) (by unfold maxLen; omega) (by omega) HB8.out.size ?_); intro v5 w8 hown5 hgrow5 hmv5)
    have hgr : World.grownBy (w7.alloc (.cells #[.slice o 0 k] 47)) w8 (some (w.heap.size + 3)) := hgrow5
    rw [Nat.zero_add, List.nil_append] at hown5
    obtain ⟨g5, k5, rfl, hge5, hlt5⟩ := hown5.form (by omega)
    have HC5 : Hid (w8.cell? ⟨g5, 0, none⟩ = some (.slice o 0 k)) := Lib.hid (by
      have := hown5.cells (g := g5) rfl 0 (.slice o 0 k) rfl
      rw [Addr.add_mid] at this
      exact this)
    have hk5 : 1 ≤ k5 := by
      rcases hown5.2 with ⟨h1, _⟩ | ⟨_, _, _, h1, _, _, h2, _⟩
      · cases h1
      · injection h1 with _ _ h3; omega
    have hkp : Keeps (fun b => b ≠ w.heap.size + 3) (w7.alloc (.cells #[.slice o 0 k] 47)) w8 := Keeps.of_grown hgr (fun g hg h => h (by injection hg with hg; exact hg.symm))
    have D8 := Lib.hid (ownsRow_keep E8.out hkp (own_far E8.out Z3.out (by decide)))
    have D13 := Lib.hid (ownsRow_keep E13.out hkp (own_far E13.out Z3.out (by decide)))
    have D18 := Lib.hid (ownsRow_keep E18.out hkp (own_far E18.out Z3.out (by decide)))
    have DRO := Lib.hid (ERO.out.move (P := fun _ => False) (fun _ h => absurd rfl h) ⟨hkp.1, fun _ _ h => h.elim⟩)
    have D1 := Lib.hid ((hkp.2 _ (Array.getElem?_eq_some_iff.1 Z1.out).1 (by omega)).trans Z1.out)
    have D2 := Lib.hid ((hkp.2 _ (Array.getElem?_eq_some_iff.1 Z2.out).1 (by omega)).trans Z2.out)
    have HB9 := Lib.hid (HB8.out.grown hgr HB8.out.size (fun q hq => (HOW.out.lt q hq).1))
    clear c4 hown5 hgrow5 hmv5 hgr hkp HOW HRV HB8 Z1 Z2 Z3 E8 E13 E18 ERO hi hz0 hz1 hz2
    rw [rounds_succ]
    go_wp2_with fail
    rw [rounds_succ]
    go_wp2_with fail
    refine (stlastx_any g5 0 k5 (.slice o 0 k) w8 HC5.out ⟨_, _, _, rfl⟩ (by omega) (by omega)).mono ?_
    rintro e w9 ⟨rfl, hb9⟩
    have HBa := Lib.hid (HB9.out.trans (hb9.mono HB9.out.size))
    have F1 := Lib.hid ((hb9.block _ (Array.getElem?_eq_some_iff.1 D1.out).1).trans D1.out)
    have F2 := Lib.hid ((hb9.block _ (Array.getElem?_eq_some_iff.1 D2.out).1).trans D2.out)
    have F8 := Lib.hid (ownsRow_keep D8.out (Keeps.of_below (P := fun _ => True) hb9) fun _ _ => trivial)
    have F13 := Lib.hid (ownsRow_keep D13.out (Keeps.of_below (P := fun _ => True) hb9) fun _ _ => trivial)
    have F18 := Lib.hid (ownsRow_keep D18.out (Keeps.of_below (P := fun _ => True) hb9) fun _ _ => trivial)
    have FRO := Lib.hid (DRO.out.below hb9)
    clear hb9 D1 D2 D8 D13 D18 DRO HB9 HC5
    go_wp2_with fail
    refine wp_loop_rounds 1 ?_
    rw [rounds_succ]
    go_wp2_with fail
    rw [rounds_succ]
    obtain ⟨c0, c1, c2, c3, c4, c5, c6, c7⟩ := row8 F2.out
    obtain ⟨d0, d1, d2, d3, d4, d5, d6, d7⟩ := row8 F1.out
    have zf := fun j => frozen_heap F1.out j
    have zf0 := zf 0
    have zf1 := zf 1
    have zf2 := zf 2
    have zf3 := zf 3
    have zf4 := zf 4
    have zf5 := zf 5
    have zf6 := zf 6
    have zf7 := zf 7
    go_wp2_with fail
    have hfin := put8 F1.out (.int .i64 pk) (.string pt) (.bool pn) (.slice l8 ll c8) (.slice o 0 k) (.int .i64 pa) (.slice l13 ml c13) (.slice l18 sl c18)
    have hk8 := keep8 (P := fun b => b ≠ w.heap.size + 1) w9 (w.heap.size + 1) (fun h => h rfl) (.int .i64 pk) (.string pt) (.bool pn) (.slice l8 ll c8) (.slice o 0 k) (.int .i64 pa) (.slice l13 ml c13) (.slice l18 sl c18)
    have hbl := below8 HBa.out (show w.heap.size ≤ w.heap.size + 1 by omega) (.int .i64 pk) (.string pt) (.bool pn) (.slice l8 ll c8) (.slice o 0 k) (.int .i64 pa) (.slice l13 ml c13) (.slice l18 sl c18)
    have L8 := ownsRow_keep F8.out hk8 (own_far F8.out F1.out (by decide))
    have L13 := ownsRow_keep F13.out hk8 (own_far F13.out F1.out (by decide))
    have L18 := ownsRow_keep F18.out hk8 (own_far F18.out F1.out (by decide))
    have LRO := FRO.out.move (P := fun _ => False) (fun _ h => absurd rfl h) ⟨hk8.1, fun _ _ h => h.elim⟩
    obtain ⟨g0, g1, g2, g3, g4, g5', g6, g7⟩ := row8 hfin
    refine bodyPost_ret (v := .agg #[.int .i64 pk, .string pt, .bool pn, .slice l8 ll c8, .slice o 0 k, .int .i64 pa, .slice l13 ml c13, .slice l18 sl c18]) (by simp [results, Try.results49, go_sem, g0, g1, g2, g3, g4, g5', g6, g7]) rfl ?_
    exact ⟨⟨_, _, _, _, _, rfl, L8, LRO, L13, L18⟩, hbl⟩
end Go.Proofs.Ytioidaojnbenbaa
