/- The document's Put. -/
import Derived.Test.YtegengnffdlplaaGreatDoorRbFree
import Derived.Test.YtegengnffdlplaaGreatDoorOrdV
import Derived.Deep.AppendLies
namespace Go.Proofs.YtegengnffdlplaaGreatDoor
open Go.RowKit

set_option maxRecDepth 100000 in
/-- Onto a row with no room at all: what was there stays. -/
theorem run_append_emp2 (W : World) (g : Nat) (ty : TypeId) (hg : W.heap[g]? = some (.cells #[] 3 (0, 0))) (x : Value) (zs : List Int) (hx : Iz W x zs) (hl : zs.length ≤ 1000000) :
    ∃ v' W', (Builtin.append_ #[27, 27] ty #[.slice (some ⟨g, 0, none⟩) 0 0, x]).run Tryz.prog W = .ok v' W' ∧ Iz W' v' zs ∧ Below W.heap.size W W' ∧ InP (fun b => W.heap.size ≤ b) zs.length v' := by
  obtain ⟨i0, hi, hz0, hz1, hz2⟩ := info_parts infoS8
  obtain ⟨hm, ao, cap, rfl, hc, hr⟩ := hx.cases
  cases ao with
  | none =>
    rcases hr with ⟨rfl, h0⟩ | ⟨b, off, e, _⟩
    · obtain rfl := h0 rfl
      exact ⟨_, _, run_append_owned_none (P := Tryz.prog) (w := W) 0 27 ty 3 i0 1 Tryz.underlying27 hi _ 0 [] ⟨rfl, .inr ⟨g, 0, #[], rfl, Nat.zero_le _, hg, Nat.le_refl _, Nat.zero_le _, rfl, rfl⟩⟩, Iz.empty _ _ _, Below.refl _ _, fun b h _ => by simp at h⟩
    · cases e
  | some ad =>
    have hnews : ∀ j u, (ic zs)[j]? = some u → W.cell? (ad.add j) = some u := by
      intro j u hu
      have hj : j < zs.length := by rw [← ic_len zs]; exact (List.getElem?_eq_some_iff.1 hu).1
      rcases hr with ⟨h0, _⟩ | ⟨b, off, e1, _, hcell⟩
      · rw [h0] at hj; simp at hj
      · injection e1 with e1
        subst e1
        rw [Addr.add_mid, hcell j hj, ← hu, ic_at hj]
    rcases Nat.eq_zero_or_pos zs.length with h0 | hp
    · obtain rfl : zs = [] := List.eq_nil_of_length_eq_zero h0
      have hr2 := run_append_room (P := Tryz.prog) W 27 ty 3 i0 Tryz.underlying27 hi g 0 0 #[] hg ad 0 cap [] (by simp) (by simp) (by simp) (Nat.le_refl _) (by simp)
      refine ⟨_, _, hr2, Iz.empty _ _ _, ?_, fun b h _ => by simp at h⟩
      have e : (((#[] : Array Value).toList.take (0 * i0.size) ++ [] ++ (#[] : Array Value).toList.drop (0 * i0.size + ([] : List Value).length)).toArray) = #[] := by simp
      rw [e, setRow_self W g #[] _ _ hg]
      exact Below.refl _ _
    · have hr2 := run_append_grow (P := Tryz.prog) W 27 ty 3 i0 (.int .i64 0) Tryz.underlying27 hi hz0 ⟨g, 0, none⟩ 0 0 [] (by simp) (by simp) ad zs.length cap (ic zs) (by rw [ic_len, hz1, Nat.mul_one]) hnews (by omega) (by omega) (by rw [hz2]; exact growslice_fits (by omega) (by omega))
      refine ⟨_, _, hr2, ?_, (Below.refl _ W).drew.alloc (Nat.le_refl _) _, fun b _ hb => by simp [Value.ownBlock] at hb; omega⟩
      rw [Nat.zero_add]
      refine Iz.mk rfl hm (grownCap_ge _ _ _ _) (by simp) fun j hj => ?_
      rw [cell_of_row _ W.heap.size (0 + j) _ _ (0, 0) (heap_alloc_new W.drew _), Nat.zero_add, ← ic_at hj]
      have hjl : j < (ic zs).length := by rw [ic_len]; exact hj
      simp only [List.nil_append, Array.empty_append] at *
      rw [Array.getElem?_append_left (by simpa using hjl)]
      simp

theorem infoEn : (Tryz.prog.info? 73).map (fun i => (i.zero, i.size, i.bytes)) = some (some (.agg #[.int .i64 0, .string ⟨#[]⟩, .slice none 0 0, .int .i64 0]), 4, 56) := by kernel_rfl
/-- Entries with one more, and their list not yet, or already, where it is to be. -/
def PutS (w1 : World) (Xb : Nat → Prop) (m R : Nat) (es' : List En) (lv v : Value) (W : World) : Prop :=
  (∃ us', W.ownsRow (m + 1) 73 4 v es'.length us' ∧ EnRow (fun b => Xb b ∧ v.ownBlock ≠ some b) W es' us') ∧ (∀ b, v.ownBlock = some b → Xb b) ∧ W.heap[m]? = some (.cells #[.int .i64 (R : Nat), lv] 50 (0, 0)) ∧ Keeps (fun b => b ≠ m ∧ ¬ Xb b) w1 W ∧ ∀ B, B ≤ m → B ≤ w1.heap.size → Below B w1 W
/-- What Put leaves. -/
def RpP (Xb : Nat → Prop) (m R : Nat) (es : List En) (b : Int) (D : Sx) (c : Int) (w : World) (e : Ending) (w' : World) : Prop :=
  e = .returned (.int .i64 (if mayP R b D c then (if atL es b D.t D.m = 0 then 0 else 2) else 1)) ∧ RrW w' Xb m R (if mayP R b D c then (if atL es b D.t D.m = 0 then es ++ [⟨b, D.t, D.m, c⟩] else es) else es) ∧ Keeps (fun b => b ≠ m ∧ ¬ Xb b) w w' ∧ ∀ B, B ≤ m → B ≤ w.heap.size → Below B w w'
theorem RpP.no {Xb : Nat → Prop} {m R : Nat} {es : List En} {b : Int} {D : Sx} {c : Int} {w w' : World} (h : mayP R b D c = false) (hr : RrW w' Xb m R es) (hb : Below w.heap.size w w') : RpP Xb m R es b D c w (.returned (.int .i64 1)) w' := by
  unfold RpP
  rw [h]
  exact ⟨rfl, hr, Keeps.of_below hb, fun B _ h2 => hb.mono h2⟩
theorem RpP.held {Xb : Nat → Prop} {m R : Nat} {es : List En} {b : Int} {D : Sx} {c : Int} {w w' : World} (h : mayP R b D c = true) (h0 : atL es b D.t D.m ≠ 0) (hr : RrW w' Xb m R es) (hb : Below w.heap.size w w') : RpP Xb m R es b D c w (.returned (.int .i64 2)) w' := by
  unfold RpP
  rw [h, if_pos rfl, if_pos rfl, if_neg h0, if_neg h0]
  exact ⟨rfl, hr, Keeps.of_below hb, fun B _ h2 => hb.mono h2⟩

set_option maxRecDepth 100000 in
set_option maxHeartbeats 8000000 in
/-- Put of the document. -/
theorem rrput_any (w : World) (Xb : Nat → Prop) (m R : Nat) (es : List En) (h : RrW w Xb m R es) (hX : ∀ b, w.heap.size ≤ b → Xb b) (b : Int) (D : Sx) (us : List Value) (c : Int) (hd : SLay w D us) (hsm : SmS 1100000 D) (hml : D.m.length ≤ 1000000) (hl : es.length ≤ 1000) (hpos : ∀ x ∈ es, 1 ≤ x.lb ∧ Rg x.ms) :
    Calls Tryz.prog 22 #[.pointer (some ⟨m, 0, none⟩), .int .i64 b, .agg us.toArray, .int .i64 c] w (RpP Xb m R es b D c w) := by
  obtain ⟨i0, hi, hz0, hz1, hz2⟩ := info_parts infoEn
  have HI := Lib.hid (And.intro hi (And.intro hz0 (And.intro hz1 hz2)))
  clear hi hz0 hz1 hz2
  have HR := Lib.hid h
  have HL := Lib.hid hl
  have HPS := Lib.hid hpos
  have HD := Lib.hid hd
  have HSM := Lib.hid hsm
  have HXW := Lib.hid hX
  obtain ⟨kx, tx, nx, xo, xn, xc, yo, yn, yc, ax, po, pn, pc, qo, qn, qc, rfl⟩ := sx_shapes hd
  obtain ⟨htx, hmz⟩ : tx = D.t ∧ Iz w (.slice po pn pc) D.m := by
    obtain ⟨_, _, _, _, _, he, _, _, _, _, hm, _, _⟩ := hd.open'
    simp only [List.cons.injEq, and_true] at he
    obtain ⟨_, h1, _, _, _, _, rfl, _⟩ := he
    exact ⟨by injection h1, hm⟩
  obtain rfl : pn = D.m.length := by
    obtain ⟨_, _, _, _, e2, _⟩ := hmz
    simp only [Value.slice.injEq] at e2
    exact e2.2.1
  have HML := Lib.hid hml
  have HMZ := Lib.hid hmz
  have HTX := Lib.hid htx
  clear h hl hpos hd hsm hX hml hmz htx
  have hb1 := below1 w (.cells #[.int .i64 kx, .string tx, .bool nx, .slice xo xn xc, .slice yo yn yc, .int .i64 ax, .slice po D.m.length pc, .slice qo qn qc] 29)
  have hx1 := heap_alloc_new w (.cells #[.int .i64 kx, .string tx, .bool nx, .slice xo xn xc, .slice yo yn yc, .int .i64 ax, .slice po D.m.length pc, .slice qo qn qc] 29)
  show Calls Tryz.prog 22 #[.pointer (some ⟨m, 0, none⟩), .int .i64 b, .agg #[.int .i64 kx, .string tx, .bool nx, .slice xo xn xc, .slice yo yn yc, .int .i64 ax, .slice po D.m.length pc, .slice qo qn qc], .int .i64 c] w _
  go_enter Tryz.func22, Tryz.ntmps22
  go_upto_region 1 with fail
  generalize w.alloc (.cells #[.int .i64 kx, .string tx, .bool nx, .slice xo xn xc, .slice yo yn yc, .int .i64 ax, .slice po D.m.length pc, .slice qo qn qc] 29) = w0 at *
  have HB0 := Lib.hid hb1
  have HX0 := Lib.hid hx1
  clear hb1 hx1
  by_cases h1 : b < 1
  · have d1 : decide (b < 1) = true := decide_eq_true h1
    have HV : Hid (mayP R b D c = false) := Lib.hid (by unfold mayP; rw [decide_eq_false (by omega)]; rfl)
    go_wp2_with fail
    go_ret
    exact RpP.no HV.out (HR.out.below HB0.out) HB0.out
  have d1 : decide (b < 1) = false := decide_eq_false h1
  obtain ⟨lv0, us00, hbx0, _, _, _⟩ := HR.out.ex
  have hr0 := (HB0.out.block _ (Array.getElem?_eq_some_iff.1 hbx0).1).trans hbx0
  obtain ⟨r0, r1, _, _⟩ := rowp2r hr0
  clear hbx0 hr0
  by_cases h2 : (R : Int) < b
  · have d2 : decide ((R : Int) < b) = true := decide_eq_true h2
    have HV : Hid (mayP R b D c = false) := Lib.hid (by unfold mayP; rw [decide_eq_false (by omega)]; rfl)
    go_wp2_with fail
    go_ret
    exact RpP.no HV.out (HR.out.below HB0.out) HB0.out
  have d2 : decide ((R : Int) < b) = false := decide_eq_false h2
  obtain ⟨c0, c1, c2, c3, c4, c5, c6, c7⟩ := rowS8 HX0.out
  go_wp2_with fail
  refine (rident_any D _ w0 (HD.out.keep HB0.out) HSM.out).mono ?_
  rintro e w1 ⟨rfl, hb1⟩
  have HB1 := Lib.hid (HB0.out.trans (hb1.mono HB0.out.size))
  have HX1 := Lib.hid ((hb1.block _ (Array.getElem?_eq_some_iff.1 HX0.out).1).trans HX0.out)
  clear hb1 c0 c1 c2 c3 c4 c5 c6 c7 r0 r1
  cases hi : idB D with
  | false =>
    have HV : Hid (mayP R b D c = false) := Lib.hid (by unfold mayP; rw [hi]; simp)
    clear hi
    go_wp2_with fail
    go_ret
    exact RpP.no HV.out (HR.out.below HB1.out) HB1.out
  | true =>
    by_cases h3 : c < 1
    · have d3 : decide (c < 1) = true := decide_eq_true h3
      have HV : Hid (mayP R b D c = false) := Lib.hid (by unfold mayP; rw [hi, decide_eq_false (show ¬ 1 ≤ c by omega)]; simp)
      clear hi
      go_wp2_with fail
      go_ret
      exact RpP.no HV.out (HR.out.below HB1.out) HB1.out
    · have d3 : decide (c < 1) = false := decide_eq_false h3
      have HMP : Hid (mayP R b D c = true) := Lib.hid (by unfold mayP; rw [hi, decide_eq_true (show 1 ≤ b ∧ b ≤ (R : Nat) by omega), decide_eq_true (show 1 ≤ c by omega)]; rfl)
      clear hi
      obtain ⟨c0, c1, c2, c3, c4, c5, c6, c7⟩ := rowS8 HX1.out
      go_wp2_with fail
      refine (rat_any w1 Xb m R es (HR.out.below HB1.out) b tx _ D.m (HMZ.out.below HB1.out) HL.out).mono ?_
      rintro e w2 ⟨rfl, hb2⟩
      obtain ⟨z, HZV⟩ : ∃ z, Hid (atL es b tx D.m = z) := ⟨_, Lib.hid rfl⟩
      rw [HZV.out]
      have HB2 := Lib.hid (HB1.out.trans (hb2.mono HB1.out.size))
      have HX2 := Lib.hid ((hb2.block _ (Array.getElem?_eq_some_iff.1 HX1.out).1).trans HX1.out)
      clear hb2 c0 c1 c2 c3 c4 c5 c6 c7 HX1 HX0
      have hp := atL_pos HPS.out b tx D.m
      rw [HZV.out] at hp
      rcases hp with ⟨hp, _⟩ | ⟨hp, _⟩
      rotate_left
      · have hgt : decide (0 < z) = true := decide_eq_true (by omega)
        have HNZ : Hid (atL es b D.t D.m ≠ 0) := Lib.hid (by have := HZV.out; rw [HTX.out] at this; omega)
        clear hp
        go_wp2_with fail
        go_ret
        exact RpP.held HMP.out HNZ.out (HR.out.below HB2.out) HB2.out
      · subst hp
        have HNZ : Hid (atL es b D.t D.m = 0) := Lib.hid (by have := HZV.out; rw [HTX.out] at this; exact this)
        go_upto_region 5 with fail
        clear d1 d2 d3
        obtain ⟨lv, us0, hbx, how, hrw, hxo⟩ := (HR.out.below HB2.out).ex
        obtain ⟨vo, vc, rfl⟩ := own_dslice how
        have HBX := Lib.hid hbx
        have HO := Lib.hid how
        have HRW := Lib.hid hrw
        have HXO := Lib.hid hxo
        have HLM := Lib.hid (Array.getElem?_eq_some_iff.1 hbx).1
        have HLT := Lib.hid (Array.getElem?_eq_some_iff.1 HX2.out).1
        have HXR := Lib.hid HX2.out
        have HX : Hid (∀ b, w2.heap.size ≤ b → Xb b) := Lib.hid fun b hb => HXW.out b (Nat.le_trans HB2.out.size hb)
        have HFAR := Lib.hid HR.out.far
        clear hbx how hrw hxo
        refine wp_region_vals (fun L vals W => AllV [some (.pointer (some ⟨m, 0, none⟩)), some (.pointer (some ⟨m, 0, none⟩)), some (.pointer (some ⟨m, 0, none⟩)), some (.pointer (some ⟨m, 1, none⟩)), some (.slice vo es.length vc), some (.int .i64 b), some (.pointer (some ⟨w.heap.size, 1, none⟩)), some (.string tx), none, some (.pointer (some ⟨w.heap.size, 6, none⟩)), some (.slice po D.m.length pc), none, some (.int .i64 c), none, none, none, some (.pointer (some ⟨m, 0, none⟩)), some (.pointer (some ⟨m, 1, none⟩)), none] L vals ∧ Ph 15 18 (fun W => Below w2.heap.size w2 W) (fun v W => PutS w2 Xb m R (es ++ [(⟨b, tx, D.m, c⟩ : En)]) (.slice vo es.length vc) v W) (fun v W => PutS w2 Xb m R (es ++ [(⟨b, tx, D.m, c⟩ : En)]) v v W) L vals W ∧ Ph 8 11 (fun _ => True) (fun v W => ∃ eb, v = .slice (some ⟨eb, 0, none⟩) 0 0 ∧ W.heap[eb]? = some (.cells #[] 3 (0, 0))) (fun _ _ => True) L vals W ∧ Ph 11 13 (fun _ => True) (fun v W => ∃ o cc, v = .slice o D.m.length cc ∧ Iz W (.slice o D.m.length cc) D.m ∧ InP (fun b => w2.heap.size ≤ b) D.m.length (.slice o D.m.length cc)) (fun _ _ => True) L vals W ∧ Ph 13 14 (fun _ => True) (fun v W => ∃ o cc, v = .agg #[.int .i64 b, .string tx, .slice o D.m.length cc, .int .i64 c] ∧ Iz W (.slice o D.m.length cc) D.m ∧ InP (fun b => w2.heap.size ≤ b) D.m.length (.slice o D.m.length cc)) (fun _ _ => True) L vals W ∧ Ph 14 15 (fun _ => True) (fun v W => ∃ nb o cc, v = .slice (some ⟨nb, 0, none⟩) 1 1 ∧ W.heap[nb]? = some (.cells #[.int .i64 b, .string tx, .slice o D.m.length cc, .int .i64 c] 73 (0, 0)) ∧ Iz W (.slice o D.m.length cc) D.m ∧ InP (fun b => w2.heap.size ≤ b) D.m.length (.slice o D.m.length cc)) (fun _ _ => True) L vals W) (by kernel_rfl) ?_ (by kernel_rfl) (by kernel_rfl) ?_ ?_
        · exact ⟨AllV.start _ _, Ph.start (Below.refl _ _).drew, Ph.start trivial, Ph.start trivial, Ph.start trivial, Ph.start trivial⟩
        · refine AllOps.cons ?_ ?_
          · intro L vals aa W hC hB hL hD hdep
            obtain ⟨hV, hP0, hP1, hP2, hP3, hP4⟩ := hC
            refine .inl ⟨rfl, ?_⟩
            have b0 : aa.tmps.getD 0 undef = .pointer (some ⟨m, 0, none⟩) := hB.off 0 (by kernel_rfl)
            refine goesV_value (v := .pointer (some ⟨m, 0, none⟩)) ?_ ⟨hV.fix rfl, hP0.idle (by decide) (by decide) _, hP1.idle (by decide) (by decide) _, hP2.idle (by decide) (by decide) _, hP3.idle (by decide) (by decide) _, hP4.idle (by decide) (by decide) _⟩
            simp only [execOp, Act.eval, b0]
            go_simp
          refine AllOps.cons ?_ ?_
          · intro L vals aa W hC hB hL hD hdep
            obtain ⟨hV, hP0, hP1, hP2, hP3, hP4⟩ := hC
            refine .inl ⟨rfl, ?_⟩
            have b0 : aa.tmps.getD 0 undef = .pointer (some ⟨m, 0, none⟩) := hB.off 0 (by kernel_rfl)
            refine goesV_value (v := .pointer (some ⟨m, 0, none⟩)) ?_ ⟨hV.fix rfl, hP0.idle (by decide) (by decide) _, hP1.idle (by decide) (by decide) _, hP2.idle (by decide) (by decide) _, hP3.idle (by decide) (by decide) _, hP4.idle (by decide) (by decide) _⟩
            simp only [execOp, Act.eval, b0]
            go_simp
          refine AllOps.cons ?_ ?_
          · intro L vals aa W hC hB hL hD hdep
            obtain ⟨hV, hP0, hP1, hP2, hP3, hP4⟩ := hC
            refine .inl ⟨rfl, ?_⟩
            have e0 : aa.tmps.getD 37 undef = .pointer (some ⟨m, 0, none⟩) := hV.at (j := 1) rfl (hdep 1 37 (by kernel_rfl))
            refine goesV_value (v := .pointer (some ⟨m, 0, none⟩)) ?_ ⟨hV.fix rfl, hP0.idle (by decide) (by decide) _, hP1.idle (by decide) (by decide) _, hP2.idle (by decide) (by decide) _, hP3.idle (by decide) (by decide) _, hP4.idle (by decide) (by decide) _⟩
            simp only [execOp, Act.eval, e0]
            go_simp
          refine AllOps.cons ?_ ?_
          · intro L vals aa W hC hB hL hD hdep
            obtain ⟨hV, hP0, hP1, hP2, hP3, hP4⟩ := hC
            refine .inl ⟨rfl, ?_⟩
            have e0 : aa.tmps.getD 38 undef = .pointer (some ⟨m, 0, none⟩) := hV.at (j := 2) rfl (hdep 2 38 (by kernel_rfl))
            refine goesV_value (v := .pointer (some ⟨m, 1, none⟩)) ?_ ⟨hV.fix rfl, hP0.idle (by decide) (by decide) _, hP1.idle (by decide) (by decide) _, hP2.idle (by decide) (by decide) _, hP3.idle (by decide) (by decide) _, hP4.idle (by decide) (by decide) _⟩
            simp only [execOp, Act.eval, e0]
            go_simp
          refine AllOps.cons ?_ ?_
          · intro L vals aa W hC hB hL hD hdep
            obtain ⟨hV, hP0, hP1, hP2, hP3, hP4⟩ := hC
            refine .inl ⟨rfl, ?_⟩
            have e0 : aa.tmps.getD 39 undef = .pointer (some ⟨m, 1, none⟩) := hV.at (j := 3) rfl (hdep 3 39 (by kernel_rfl))
            have hpre := hP0.pre (hD 15 (by kernel_rfl))
            have d1 := cell_heap ((hpre.block _ HLM.out).trans HBX.out) 1; obtain ⟨c0, c1, c2, c3, c4, c5, c6, c7⟩ := rowS8 ((hpre.block _ HLT.out).trans HXR.out)
            refine goesV_value (v := .slice vo es.length vc) ?_ ⟨hV.fix rfl, hP0.idle (by decide) (by decide) _, hP1.idle (by decide) (by decide) _, hP2.idle (by decide) (by decide) _, hP3.idle (by decide) (by decide) _, hP4.idle (by decide) (by decide) _⟩
            simp only [execOp, Act.eval, e0]
            go_simp
          refine AllOps.cons ?_ ?_
          · intro L vals aa W hC hB hL hD hdep
            obtain ⟨hV, hP0, hP1, hP2, hP3, hP4⟩ := hC
            refine .inl ⟨rfl, ?_⟩
            have b0 : aa.tmps.getD 1 undef = .int .i64 b := hB.off 1 (by kernel_rfl)
            refine goesV_value (v := .int .i64 b) ?_ ⟨hV.fix rfl, hP0.idle (by decide) (by decide) _, hP1.idle (by decide) (by decide) _, hP2.idle (by decide) (by decide) _, hP3.idle (by decide) (by decide) _, hP4.idle (by decide) (by decide) _⟩
            simp only [execOp, Act.eval, b0]
            go_simp
          refine AllOps.cons ?_ ?_
          · intro L vals aa W hC hB hL hD hdep
            obtain ⟨hV, hP0, hP1, hP2, hP3, hP4⟩ := hC
            refine .inl ⟨rfl, ?_⟩
            have b0 : aa.tmps.getD 6 undef = .pointer (some ⟨w.heap.size, 0, none⟩) := hB.off 6 (by kernel_rfl)
            refine goesV_value (v := .pointer (some ⟨w.heap.size, 1, none⟩)) ?_ ⟨hV.fix rfl, hP0.idle (by decide) (by decide) _, hP1.idle (by decide) (by decide) _, hP2.idle (by decide) (by decide) _, hP3.idle (by decide) (by decide) _, hP4.idle (by decide) (by decide) _⟩
            simp only [execOp, Act.eval, b0]
            go_simp
          refine AllOps.cons ?_ ?_
          · intro L vals aa W hC hB hL hD hdep
            obtain ⟨hV, hP0, hP1, hP2, hP3, hP4⟩ := hC
            refine .inl ⟨rfl, ?_⟩
            have e0 : aa.tmps.getD 42 undef = .pointer (some ⟨w.heap.size, 1, none⟩) := hV.at (j := 6) rfl (hdep 6 42 (by kernel_rfl))
            have hpre := hP0.pre (hD 15 (by kernel_rfl))
            have d1 := cell_heap ((hpre.block _ HLM.out).trans HBX.out) 1; obtain ⟨c0, c1, c2, c3, c4, c5, c6, c7⟩ := rowS8 ((hpre.block _ HLT.out).trans HXR.out)
            refine goesV_value (v := .string tx) ?_ ⟨hV.fix rfl, hP0.idle (by decide) (by decide) _, hP1.idle (by decide) (by decide) _, hP2.idle (by decide) (by decide) _, hP3.idle (by decide) (by decide) _, hP4.idle (by decide) (by decide) _⟩
            simp only [execOp, Act.eval, e0]
            go_simp
          refine AllOps.cons ?_ ?_
          · intro L vals aa W hC hB hL hD hdep
            obtain ⟨hV, hP0, hP1, hP2, hP3, hP4⟩ := hC
            refine .inl ⟨rfl, ?_⟩
            have hpre := hP0.pre (hD 15 (by kernel_rfl))
            refine goesV_world (v := .slice (some ⟨W.heap.size, 0, none⟩) 0 0) (w1 := W.alloc (.cells #[] 3)) ?_ ⟨hV.free rfl, hP0.ahead (hD 15 (by kernel_rfl)) (by decide) (by decide) _ (hpre.trans ((below1 W _).mono hpre.size)), hP1.first hL (by decide) ⟨_, rfl, heap_alloc_new W _⟩, hP2.ahead (hD 11 (by kernel_rfl)) (by decide) (by decide) _ trivial, hP3.ahead (hD 13 (by kernel_rfl)) (by decide) (by decide) _ trivial, hP4.ahead (hD 14 (by kernel_rfl)) (by decide) (by decide) _ trivial⟩
            simp only [execOp]
            go_simp
          refine AllOps.cons ?_ ?_
          · intro L vals aa W hC hB hL hD hdep
            obtain ⟨hV, hP0, hP1, hP2, hP3, hP4⟩ := hC
            refine .inl ⟨rfl, ?_⟩
            have b0 : aa.tmps.getD 6 undef = .pointer (some ⟨w.heap.size, 0, none⟩) := hB.off 6 (by kernel_rfl)
            refine goesV_value (v := .pointer (some ⟨w.heap.size, 6, none⟩)) ?_ ⟨hV.fix rfl, hP0.idle (by decide) (by decide) _, hP1.idle (by decide) (by decide) _, hP2.idle (by decide) (by decide) _, hP3.idle (by decide) (by decide) _, hP4.idle (by decide) (by decide) _⟩
            simp only [execOp, Act.eval, b0]
            go_simp
          refine AllOps.cons ?_ ?_
          · intro L vals aa W hC hB hL hD hdep
            obtain ⟨hV, hP0, hP1, hP2, hP3, hP4⟩ := hC
            refine .inl ⟨rfl, ?_⟩
            have e0 : aa.tmps.getD 45 undef = .pointer (some ⟨w.heap.size, 6, none⟩) := hV.at (j := 9) rfl (hdep 9 45 (by kernel_rfl))
            have hpre := hP0.pre (hD 15 (by kernel_rfl))
            have d1 := cell_heap ((hpre.block _ HLM.out).trans HBX.out) 1; obtain ⟨c0, c1, c2, c3, c4, c5, c6, c7⟩ := rowS8 ((hpre.block _ HLT.out).trans HXR.out)
            refine goesV_value (v := .slice po D.m.length pc) ?_ ⟨hV.fix rfl, hP0.idle (by decide) (by decide) _, hP1.idle (by decide) (by decide) _, hP2.idle (by decide) (by decide) _, hP3.idle (by decide) (by decide) _, hP4.idle (by decide) (by decide) _⟩
            simp only [execOp, Act.eval, e0]
            go_simp
          refine AllOps.cons ?_ ?_
          · intro L vals aa W hC hB hL hD hdep
            obtain ⟨hV, hP0, hP1, hP2, hP3, hP4⟩ := hC
            refine .inl ⟨rfl, ?_⟩
            obtain ⟨l0, e0⟩ := hdep 8 44 (by kernel_rfl)
            have e1 : aa.tmps.getD 46 undef = .slice po D.m.length pc := hV.at (j := 10) rfl (hdep 10 46 (by kernel_rfl))
            have hpre := hP0.pre (hD 15 (by kernel_rfl))
            obtain ⟨eb, heb, hec⟩ := hP1.mid l0 hL
            rw [heb] at e0
            obtain ⟨v5, W5, hr5, hi5, hb5, hp5⟩ := run_append_emp2 W eb 27 hec _ D.m (HMZ.out.below (HB2.out.trans (hpre.mono HB2.out.size))) HML.out
            obtain ⟨_, o, cc, rfl, _, _⟩ := hi5.cases
            refine goesV_world (v := .slice o D.m.length cc) (w1 := W5) ?_ ⟨hV.free rfl, hP0.ahead (hD 15 (by kernel_rfl)) (by decide) (by decide) _ (hpre.trans (hb5.mono hpre.size)), Ph.last l0 (by decide) _ trivial, hP2.first hL (by decide) ⟨o, cc, rfl, hi5, fun b h1 h2 => Nat.le_trans hpre.size (hp5 b h1 h2)⟩, hP3.ahead (hD 13 (by kernel_rfl)) (by decide) (by decide) _ trivial, hP4.ahead (hD 14 (by kernel_rfl)) (by decide) (by decide) _ trivial⟩
            unfold execOp
            simp only [resolve, invoke, builtin, Act.eval, Sem.run_bind, Sem.run_pure, Result.andThen_ok, List.map_toArray, List.map_cons, List.map_nil, e0, e1, hr5]
          refine AllOps.cons ?_ ?_
          · intro L vals aa W hC hB hL hD hdep
            obtain ⟨hV, hP0, hP1, hP2, hP3, hP4⟩ := hC
            refine .inl ⟨rfl, ?_⟩
            have b0 : aa.tmps.getD 3 undef = .int .i64 c := hB.off 3 (by kernel_rfl)
            refine goesV_value (v := .int .i64 c) ?_ ⟨hV.fix rfl, hP0.idle (by decide) (by decide) _, hP1.idle (by decide) (by decide) _, hP2.idle (by decide) (by decide) _, hP3.idle (by decide) (by decide) _, hP4.idle (by decide) (by decide) _⟩
            simp only [execOp, Act.eval, b0]
            go_simp
          refine AllOps.cons ?_ ?_
          · intro L vals aa W hC hB hL hD hdep
            obtain ⟨hV, hP0, hP1, hP2, hP3, hP4⟩ := hC
            refine .inl ⟨rfl, ?_⟩
            have e0 : aa.tmps.getD 41 undef = .int .i64 b := hV.at (j := 5) rfl (hdep 5 41 (by kernel_rfl))
            have e1 : aa.tmps.getD 43 undef = .string tx := hV.at (j := 7) rfl (hdep 7 43 (by kernel_rfl))
            obtain ⟨l2, e2⟩ := hdep 11 47 (by kernel_rfl)
            have e3 : aa.tmps.getD 48 undef = .int .i64 c := hV.at (j := 12) rfl (hdep 12 48 (by kernel_rfl))
            have hpre := hP0.pre (hD 15 (by kernel_rfl))
            obtain ⟨o, cc, hv2, hi2, hp2⟩ := hP2.mid l2 hL
            rw [hv2] at e2
            refine goesV_value (v := .agg #[.int .i64 b, .string tx, .slice o D.m.length cc, .int .i64 c]) ?_ ⟨hV.free rfl, hP0.idle (by decide) (by decide) _, hP1.idle (by decide) (by decide) _, Ph.last l2 (by decide) _ trivial, hP3.first hL (by decide) ⟨o, cc, rfl, hi2, hp2⟩, hP4.idle (by decide) (by decide) _⟩
            simp only [Array.getD_eq_getD_getElem?] at e0 e1 e2 e3
            simp only [execOp]
            go_simp
          refine AllOps.cons ?_ ?_
          · intro L vals aa W hC hB hL hD hdep
            obtain ⟨hV, hP0, hP1, hP2, hP3, hP4⟩ := hC
            refine .inl ⟨rfl, ?_⟩
            obtain ⟨l0, e0⟩ := hdep 13 49 (by kernel_rfl)
            have hpre := hP0.pre (hD 15 (by kernel_rfl))
            obtain ⟨o, cc, hv2, hi2, hp2⟩ := hP3.mid l0 hL
            rw [hv2] at e0
            refine goesV_world (v := .slice (some ⟨W.heap.size, 0, none⟩) 1 1) (w1 := W.alloc (.cells #[.int .i64 b, .string tx, .slice o D.m.length cc, .int .i64 c] 73)) ?_ ⟨hV.free rfl, hP0.ahead (hD 15 (by kernel_rfl)) (by decide) (by decide) _ (hpre.trans ((below1 W _).mono hpre.size)), Ph.done (hP2.ord l0) (hP1.ord (hP2.ord l0)) (by decide) (by decide) _ trivial, Ph.done l0 (hP2.ord l0) (by decide) (by decide) _ trivial, Ph.last l0 (by decide) _ trivial, hP4.first hL (by decide) ⟨_, o, cc, rfl, heap_alloc_new W _, hi2.below (below1 W _), hp2⟩⟩
            simp only [Array.getD_eq_getD_getElem?] at e0
            simp only [execOp]
            go_simp
          refine AllOps.cons ?_ ?_
          · intro L vals aa W hC hB hL hD hdep
            obtain ⟨hV, hP0, hP1, hP2, hP3, hP4⟩ := hC
            refine .inl ⟨rfl, ?_⟩
            have e0 : aa.tmps.getD 40 undef = .slice vo es.length vc := hV.at (j := 4) rfl (hdep 4 40 (by kernel_rfl))
            obtain ⟨l1, e1⟩ := hdep 14 50 (by kernel_rfl)
            have hpre := hP0.pre hL
            obtain ⟨nb, o, cc, hnb, hcells, hi2, hp2⟩ := hP4.mid l1 hL
            rw [hnb] at e1
            have hn : ∀ (i : Nat) u, ([.int .i64 b, .string tx, .slice o D.m.length cc, .int .i64 c] : List Value)[i]? = some u → W.cell? ((⟨nb, 0, none⟩ : Addr).add i) = some u := World.news_of_block hcells
            have hown := ownsRow_keep HO.out (Keeps.of_below (P := fun _ => True) hpre) fun _ _ => trivial
            have hrow := EnRow.move (Keeps.of_below hpre) HRW.out
            refine goesV_append _ _ 48 rfl (m + 1) 73 i0 _ 4 56 Tryz.underlying48 HI.out.1 HI.out.2.1 HI.out.2.2.1 HI.out.2.2.2 rfl (by decide) (.slice vo es.length vc) es.length us0 e0 hown ⟨nb, 0, none⟩ 1 1 [.int .i64 b, .string tx, .slice o D.m.length cc, .int .i64 c] e1 rfl hn (by intro u hu; simp at hu; rcases hu with rfl | rfl | rfl | rfl <;> rfl) (by have := HL.out; unfold maxLen; omega) (by have := HL.out; omega) (by have := HLM.out; have := hpre.size; omega) ?_
            intro v5 w5 hown5 hgrow5 hmv5
            have hat : EnAt (fun b => Xb b ∧ (Value.slice vo es.length vc).ownBlock ≠ some b) W (⟨b, tx, D.m, c⟩ : En) [.int .i64 b, .string tx, .slice o D.m.length cc, .int .i64 c] := ⟨_, rfl, hi2, fun b h1 h2 => ⟨HX.out b (hp2 b h1 h2), fun e => by have h3 := (HO.out.lt b e).2; have h4 := hp2 b h1 h2; omega⟩⟩
            have hfar : ∀ b, (Value.slice vo es.length vc).ownBlock = some b → b ≠ m := fun b hb e => by have := (HO.out.lt b hb).1; omega
            exact ⟨hV.free rfl, hP0.first hL (by decide) ⟨⟨us0 ++ [.int .i64 b, .string tx, .slice o D.m.length cc, .int .i64 c], by rw [List.length_append]; exact hown5, hrow.appended hat hgrow5 hmv5⟩, fun b hb => by rcases hmv5 with e2 | ⟨b2, e2, hge⟩; exact HXO.out b (by rw [← e2]; exact hb); (rw [e2] at hb; injection hb with hb; subst hb; exact HX.out _ (Nat.le_trans hpre.size hge)), (hgrow5.block m (Nat.lt_of_lt_of_le HLM.out hpre.size) (fun e => hfar m (by first | exact e | exact e.symm) rfl)).trans ((hpre.block m HLM.out).trans HBX.out), ⟨Nat.le_trans hpre.size hgrow5.size, fun b hb hp => (hgrow5.block b (Nat.lt_of_lt_of_le hb hpre.size) (fun e => hp.2 (HXO.out b (by first | exact e | exact e.symm)))).trans (hpre.block b hb)⟩, fun B h1 h2 => (hpre.mono h2).grown hgrow5 (Nat.le_trans h2 hpre.size) fun q hq => by have := (HO.out.lt q hq).1; omega⟩, Ph.done (hP2.ord (hP3.ord l1)) (hP1.ord (hP2.ord (hP3.ord l1))) (by decide) (by decide) _ trivial, Ph.done (hP3.ord l1) (hP2.ord (hP3.ord l1)) (by decide) (by decide) _ trivial, Ph.done l1 (hP3.ord l1) (by decide) (by decide) _ trivial, Ph.last l1 (by decide) _ trivial⟩
          refine AllOps.cons ?_ ?_
          · intro L vals aa W hC hB hL hD hdep
            obtain ⟨hV, hP0, hP1, hP2, hP3, hP4⟩ := hC
            refine .inl ⟨rfl, ?_⟩
            have e0 : aa.tmps.getD 36 undef = .pointer (some ⟨m, 0, none⟩) := hV.at (j := 0) rfl (hdep 0 36 (by kernel_rfl))
            refine goesV_value (v := .pointer (some ⟨m, 0, none⟩)) ?_ ⟨hV.fix rfl, hP0.idle (by decide) (by decide) _, hP1.idle (by decide) (by decide) _, hP2.idle (by decide) (by decide) _, hP3.idle (by decide) (by decide) _, hP4.idle (by decide) (by decide) _⟩
            simp only [execOp, Act.eval, e0]
            go_simp
          refine AllOps.cons ?_ ?_
          · intro L vals aa W hC hB hL hD hdep
            obtain ⟨hV, hP0, hP1, hP2, hP3, hP4⟩ := hC
            refine .inl ⟨rfl, ?_⟩
            have e0 : aa.tmps.getD 52 undef = .pointer (some ⟨m, 0, none⟩) := hV.at (j := 16) rfl (hdep 16 52 (by kernel_rfl))
            refine goesV_value (v := .pointer (some ⟨m, 1, none⟩)) ?_ ⟨hV.fix rfl, hP0.idle (by decide) (by decide) _, hP1.idle (by decide) (by decide) _, hP2.idle (by decide) (by decide) _, hP3.idle (by decide) (by decide) _, hP4.idle (by decide) (by decide) _⟩
            simp only [execOp, Act.eval, e0]
            go_simp
          refine AllOps.cons ?_ ?_
          · intro L vals aa W hC hB hL hD hdep
            obtain ⟨hV, hP0, hP1, hP2, hP3, hP4⟩ := hC
            refine .inl ⟨rfl, ?_⟩
            have e0 : aa.tmps.getD 53 undef = .pointer (some ⟨m, 1, none⟩) := hV.at (j := 17) rfl (hdep 17 53 (by kernel_rfl))
            obtain ⟨l1, e1⟩ := hdep 15 51 (by kernel_rfl)
            obtain ⟨⟨us5, ho, hr⟩, hx, hbx, hk, hb⟩ := hP0.mid l1 hL
            obtain ⟨qo, qc2, hq⟩ := own_dslice ho
            have hz := frozen_heap hbx 1
            have hc4 := cell_heap hbx 1
            rw [hq] at e1
            refine goesV_skip (w1 := W.setCell ⟨m, 1, none⟩ (vals 15)) ?_ ⟨hV.free rfl, Ph.last l1 (by decide) _ ⟨⟨us5, ownsRow_keep ho ((Keeps.refl (fun b => b ≠ m) W).set (p := ⟨m, 1, none⟩) (fun hp => hp rfl) _) (fun b hb => by have := (ho.lt b hb).1; omega), EnRow.move ((Keeps.refl _ W).set (p := ⟨m, 1, none⟩) (fun hp => HFAR.out hp.1) _) hr⟩, hx, (rowSet hbx 1 _).trans (by simp), hk.set (p := ⟨m, 1, none⟩) (fun hp => hp.1 rfl) _, fun B h1 h2 => (hb B h1 h2).setCell (p := ⟨m, 1, none⟩) h1 _⟩, Ph.done (hP2.ord (hP3.ord (hP4.ord l1))) (hP1.ord (hP2.ord (hP3.ord (hP4.ord l1)))) (by decide) (by decide) _ trivial, Ph.done (hP3.ord (hP4.ord l1)) (hP2.ord (hP3.ord (hP4.ord l1))) (by decide) (by decide) _ trivial, Ph.done (hP4.ord l1) (hP3.ord (hP4.ord l1)) (by decide) (by decide) _ trivial, Ph.done l1 (hP4.ord l1) (by decide) (by decide) _ trivial⟩
            rw [hq]
            simp only [execOp, Act.eval, e0, e1]
            go_simp
          exact trivial
        · intro L vals aa w8 hC hLL hB hall
          obtain ⟨hV, hP0, hP1, hP2, hP3, hP4⟩ := hC
          have hv : ∀ p ∈ [((36 : Nat), (.pointer (some ⟨m, 0, none⟩) : Value)), ((37 : Nat), (.pointer (some ⟨m, 0, none⟩) : Value)), ((38 : Nat), (.pointer (some ⟨m, 0, none⟩) : Value)), ((39 : Nat), (.pointer (some ⟨m, 1, none⟩) : Value)), ((40 : Nat), (.slice vo es.length vc : Value)), ((41 : Nat), (.int .i64 b : Value)), ((42 : Nat), (.pointer (some ⟨w.heap.size, 1, none⟩) : Value)), ((43 : Nat), (.string tx : Value)), ((44 : Nat), (vals 8 : Value)), ((45 : Nat), (.pointer (some ⟨w.heap.size, 6, none⟩) : Value)), ((46 : Nat), (.slice po D.m.length pc : Value)), ((47 : Nat), (vals 11 : Value)), ((48 : Nat), (.int .i64 c : Value)), ((49 : Nat), (vals 13 : Value)), ((50 : Nat), (vals 14 : Value)), ((51 : Nat), (vals 15 : Value)), ((52 : Nat), (.pointer (some ⟨m, 0, none⟩) : Value)), ((53 : Nat), (.pointer (some ⟨m, 1, none⟩) : Value))], aa.tmps.getD p.1 undef = p.2 := by
            intro p hp
            simp only [List.mem_cons, List.not_mem_nil, or_false] at hp
            rcases hp with rfl | rfl | rfl | rfl | rfl | rfl | rfl | rfl | rfl | rfl | rfl | rfl | rfl | rfl | rfl | rfl | rfl | rfl
            · exact (hall 0 _ rfl _ rfl).trans (hV 0 _ rfl (hLL 0 (Nat.le_of_ble_eq_true rfl)))
            · exact (hall 1 _ rfl _ rfl).trans (hV 1 _ rfl (hLL 1 (Nat.le_of_ble_eq_true rfl)))
            · exact (hall 2 _ rfl _ rfl).trans (hV 2 _ rfl (hLL 2 (Nat.le_of_ble_eq_true rfl)))
            · exact (hall 3 _ rfl _ rfl).trans (hV 3 _ rfl (hLL 3 (Nat.le_of_ble_eq_true rfl)))
            · exact (hall 4 _ rfl _ rfl).trans (hV 4 _ rfl (hLL 4 (Nat.le_of_ble_eq_true rfl)))
            · exact (hall 5 _ rfl _ rfl).trans (hV 5 _ rfl (hLL 5 (Nat.le_of_ble_eq_true rfl)))
            · exact (hall 6 _ rfl _ rfl).trans (hV 6 _ rfl (hLL 6 (Nat.le_of_ble_eq_true rfl)))
            · exact (hall 7 _ rfl _ rfl).trans (hV 7 _ rfl (hLL 7 (Nat.le_of_ble_eq_true rfl)))
            · exact hall 8 _ rfl _ rfl
            · exact (hall 9 _ rfl _ rfl).trans (hV 9 _ rfl (hLL 9 (Nat.le_of_ble_eq_true rfl)))
            · exact (hall 10 _ rfl _ rfl).trans (hV 10 _ rfl (hLL 10 (Nat.le_of_ble_eq_true rfl)))
            · exact hall 11 _ rfl _ rfl
            · exact (hall 12 _ rfl _ rfl).trans (hV 12 _ rfl (hLL 12 (Nat.le_of_ble_eq_true rfl)))
            · exact hall 13 _ rfl _ rfl
            · exact hall 14 _ rfl _ rfl
            · exact hall 15 _ rfl _ rfl
            · exact (hall 16 _ rfl _ rfl).trans (hV 16 _ rfl (hLL 16 (Nat.le_of_ble_eq_true rfl)))
            · exact (hall 17 _ rfl _ rfl).trans (hV 17 _ rfl (hLL 17 (Nat.le_of_ble_eq_true rfl)))
          have hact := act_fold _ hB hv (by kernel_rfl)
          subst hact
          have hfin := hP0.fin (hLL 18 (Nat.le_of_ble_eq_true rfl))
          clear hv hall hB hV hLL hP0 hP1 hP2 hP3 hP4
          refine (‹∀ (a : Act) (w : World), Code.wp Tryz.prog _ _ a w → _›) _ w8 ?_
          simp only [List.foldl, List.setIfInBounds_toArray, List.set_cons_succ, List.set_cons_zero]
          have HF := Lib.hid hfin
          clear hfin
          go_wp2_with fail
          go_ret
          obtain ⟨⟨us5, ho, hr⟩, hx, hbx, hk, hb⟩ := HF.out
          unfold RpP
          rw [HMP.out, if_pos rfl, if_pos rfl, if_pos HNZ.out, if_pos HNZ.out, ← HTX.out]
          exact ⟨rfl, ⟨⟨_, us5, hbx, ho, hr, hx⟩, HFAR.out⟩, ⟨Nat.le_trans HB2.out.size hk.1, fun b hb2 hp => (hk.2 b (Nat.lt_of_lt_of_le hb2 HB2.out.size) hp).trans (HB2.out.block b hb2)⟩, fun B h1 h2 => (HB2.out.mono h2).trans (hb B h1 (Nat.le_trans h2 HB2.out.size))⟩
end Go.Proofs.YtegengnffdlplaaGreatDoor
