/- ref09.Of of any datum. -/
import Derived.Test.YtbfcbicbeagjkaaGreatDoorSxPiece
import Derived.Test.YtbfcbicbeagjkaaGreatDoorSxROpn
namespace Go.Proofs.YtbfcbicbeagjkaaGreatDoor
open Go.RowKit

/-- What the document's Of leaves. -/
def RofP (N0 : Nat) (D : Dm) (w : World) (e : Ending) (w' : World) : Prop := ∃ us, e = .returned (.agg us.toArray) ∧ SLayP (fun b => b < N0 ∨ w.heap.size ≤ b) w' (ofS D) us ∧ Below w.heap.size w w'

set_option maxRecDepth 100000 in
set_option maxHeartbeats 8000000 in
/-- ref09.Of. -/
theorem rof_any : ∀ (kk : Nat) (D : Dm), D.sz ≤ kk → Sm 1100000 D → ∀ (N0 : Nat) (us : List Value) (w : World), LayP (fun b => b < N0) w D us → N0 ≤ w.heap.size → Calls Tryz.prog 20 #[.agg us.toArray] w (RofP N0 D w) := by
  obtain ⟨i0, hi, hz0, hz1, hz2⟩ := info_parts infoSx
  have HI := Lib.hid (And.intro hi (And.intro hz0 (And.intro hz1 hz2)))
  clear hi hz0 hz1 hz2
  intro kk
  induction kk with
  | zero => intro D h; have := sz_pos D; omega
  | succ kk ih =>
    intro D hsz hsm N0 us w h1 hN
    have HIH := Lib.hid ih
    clear ih
    have HN0 := Lib.hid hN
    obtain ⟨k, tt, n, r, l, a⟩ := D
    have HSZ : Hid (∀ (j : Nat) (h : j < l.length), (l[j]'h).sz ≤ kk) := Lib.hid fun j h => by
      have := Dm.sz_mem (d := .mk k tt n r l a) (x := l[j]) (List.getElem_mem h)
      omega
    obtain ⟨hs1, hs2, hs3, hs6⟩ := hsm.open'
    obtain ⟨lv, av, xs, rfl, hby, hts, hlim, hrs, hrp, hrow1, hap, hin1⟩ := h1.row
    unfold RofP
    rw [ofS_mk]
    have hms := mkB_size tt
    rw [← hms] at hs1 hts
    generalize mkB tt = t at *
    have hrr := hrs.rowV
    have HTL := Lib.hid (And.intro hts (limb_all hlim))
    have HSM := Lib.hid hs6
    have HLL := Lib.hid hs3
    have HI1 := Lib.hid hin1
    have HW1 := Lib.hid hrow1
    have HAP := Lib.hid hap
    have HRR : Hid (RowV w lv r.length 1 (ucs r)) := Lib.hid hrr
    have HRP := Lib.hid hrp
    have hmx : l.length ≤ 9223372036854775807 := by omega
    have HMX := Lib.hid hmx
    obtain ⟨ao, cv0, rfl⟩ : ∃ o c, av = .slice o l.length c := by obtain ⟨_, _, o, c, h, _⟩ := hrow1; exact ⟨o, c, h⟩
    obtain ⟨lo, lc, rfl⟩ : ∃ o c, lv = .slice o r.length c := by obtain ⟨_, _, o, c, h, _⟩ := hrr; exact ⟨o, c, h⟩
    clear h1 hsm hs1 hs2 hs3 hs6 hts hlim hrr hrp hrow1 hap hin1 hmx hN hsz hby hms hrs
    have hb1 := below2 w (.cells #[.int .i64 k, .string t, .bool n, .slice lo r.length lc, .slice ao l.length cv0, .int .i64 a] 27) (.cells #[.int .i64 0, .string ⟨#[]⟩, .bool false, .slice none 0 0, .slice none 0 0, .int .i64 0, .slice none 0 0, .slice none 0 0] 35)
    have hn1 := @newsd2 w (.cells #[.int .i64 k, .string t, .bool n, .slice lo r.length lc, .slice ao l.length cv0, .int .i64 a] 27) (.cells #[.int .i64 0, .string ⟨#[]⟩, .bool false, .slice none 0 0, .slice none 0 0, .int .i64 0, .slice none 0 0, .slice none 0 0] 35)
    have hsz1 : ((w.alloc (.cells #[.int .i64 k, .string t, .bool n, .slice lo r.length lc, .slice ao l.length cv0, .int .i64 a] 27)).alloc (.cells #[.int .i64 0, .string ⟨#[]⟩, .bool false, .slice none 0 0, .slice none 0 0, .int .i64 0, .slice none 0 0, .slice none 0 0] 35)).heap.size = w.heap.size + 2 := by simp
    show Calls Tryz.prog 20 #[.agg #[.int .i64 k, .string t, .bool n, .slice lo r.length lc, .slice ao l.length cv0, .int .i64 a]] w _
    go_enter Tryz.func20, Tryz.ntmps20
    go_upto_region 1 with fail
    generalize (w.alloc (.cells #[.int .i64 k, .string t, .bool n, .slice lo r.length lc, .slice ao l.length cv0, .int .i64 a] 27)).alloc (.cells #[.int .i64 0, .string ⟨#[]⟩, .bool false, .slice none 0 0, .slice none 0 0, .int .i64 0, .slice none 0 0, .slice none 0 0] 35) = W1 at *
    have HB1 := Lib.hid hb1
    have HX := Lib.hid hn1.1
    have HZ2 := Lib.hid hn1.2
    have HS1 : Hid (w.heap.size + 2 ≤ W1.heap.size) := Lib.hid (Nat.le_of_eq hsz1.symm)
    clear hb1 hn1 hsz1
    have hb3 := below1 W1 (.cells #[.int .i64 k, .string t, .bool n, .slice lo r.length lc, .slice none 0 0, .int .i64 a, .slice none 0 0, .slice none 0 0] 35)
    have hn3 := heap_alloc_new W1 (.cells #[.int .i64 k, .string t, .bool n, .slice lo r.length lc, .slice none 0 0, .int .i64 a, .slice none 0 0, .slice none 0 0] 35)
    obtain ⟨c0, c1, c2, c3, c4, c5⟩ := row6d HX.out
    go_upto_region 3 with fail
    clear c0 c1 c2 c3 c4 c5
    generalize W1.alloc (.cells #[.int .i64 k, .string t, .bool n, .slice lo r.length lc, .slice none 0 0, .int .i64 a, .slice none 0 0, .slice none 0 0] 35) = W3 at *
    have HD3 := Lib.hid hn3
    have HDS3 : Hid (SxS (fun b => b < N0 ∨ w.heap.size + 2 ≤ b) W1.heap.size W1.heap.size W1 (l.map ofS) (.slice none 0 0) 0 [] W3) := Lib.hid
      ⟨World.ownsRow_nil _ _ _ _, by rw [List.take_zero]; exact SxRow.nil _ _, hb3, (Array.getElem?_eq_some_iff.1 hn3).1, Nat.le_refl _⟩
    clear hb3 hn3
    go_loopw [4] (fun v wr => ∃ (j : Nat) (us' : List Value) (vv : Value), v = .int .i64 (j : Nat) ∧ j ≤ l.length ∧ wr.heap[W1.heap.size]? = some (.cells #[.int .i64 k, .string t, .bool n, .slice lo r.length lc, vv, .int .i64 a, .slice none 0 0, .slice none 0 0] 35 (0, 0)) ∧ SxS (fun b => b < N0 ∨ w.heap.size + 2 ≤ b) W1.heap.size W1.heap.size W1 (l.map ofS) vv j us' wr) (fun v _ => l.length - (intOf v).toNat)
    case atStart => exact ⟨0, [], _, rfl, Nat.zero_le _, HD3.out, HDS3.out⟩
    case round =>
      obtain ⟨j, us', vv, rfl, hj, hbx, hds⟩ := hrel
      obtain ⟨vo, vc, rfl⟩ := own_dslice hds.own
      have hmx := HMX.out
      have HBX := Lib.hid hbx
      have HDS := Lib.hid hds
      have hss := HS1.out
      have HRS := Lib.hid ((hds.bel.block (w.heap.size + 1) (by omega)).trans HZ2.out)
      have HXR := Lib.hid ((hds.bel.block w.heap.size (by omega)).trans HX.out)
      have HBW : Hid (Below w.heap.size w wr) := Lib.hid (HB1.out.trans (hds.bel.mono (by omega)))
      clear hbx hds hss
      obtain ⟨c0, c1, c2, c3, c4, c5⟩ := row6d HXR.out
      by_cases hjl : j < l.length
      · have hii : ((j : Nat) : Int) < ((l.length : Nat) : Int) := by omega
        have hkp : Keeps (fun b => b < N0) w wr := ⟨HBW.out.size, fun b hb _ => HBW.out.block b hb⟩
        obtain ⟨b, off, cap, v0, v1, v2, v3, v4, v5, hav, _, hbl, hly, p0, p1, p2, p3, p4, p5⟩ := row_datumP (HW1.out.move HAP.out hkp) (HI1.out.move hkp) hjl
        simp only [Value.slice.injEq, true_and] at hav
        obtain ⟨rfl, rfl⟩ := hav
        obtain ⟨x0, x1, x2, xo, xn, xc, yo, yn, yc, x5, hsh⟩ := dm_shapes hly.lay
        simp only [List.cons.injEq, and_true] at hsh
        obtain ⟨rfl, rfl, rfl, rfl, rfl, rfl⟩ := hsh
        have HY := Lib.hid hly
        have hcm : ∀ W, Below wr.heap.size wr W → ∀ q u, wr.cell? ⟨b, q, none⟩ = some u → W.cell? ⟨b, q, none⟩ = some u := fun W hW q u hu => by
          unfold World.cell? at hu ⊢
          rw [hW.block b hbl]
          exact hu
        have HGX : Hid (∀ W, Below wr.heap.size wr W → W.cell? ⟨W1.heap.size, 4, none⟩ = some (.slice vo j vc) ∧ W.cell? ⟨w.heap.size, 4, none⟩ = some (.slice (some ⟨b, off, none⟩) l.length cv0) ∧ W.cell? ⟨b, off + j * 6, none⟩ = some (.int .i64 x0) ∧ W.cell? ⟨b, off + j * 6 + 1, none⟩ = some (.string x1) ∧ W.cell? ⟨b, off + j * 6 + 2, none⟩ = some (.bool x2) ∧ W.cell? ⟨b, off + j * 6 + 3, none⟩ = some (.slice xo xn xc) ∧ W.cell? ⟨b, off + j * 6 + 4, none⟩ = some (.slice yo yn yc) ∧ W.cell? ⟨b, off + j * 6 + 5, none⟩ = some (.int .i64 x5)) := Lib.hid fun W hW =>
          ⟨cell_heap ((hW.block _ HDS.out.lt).trans HBX.out) 4, (row6d ((hW.block _ (Array.getElem?_eq_some_iff.1 HXR.out).1).trans HXR.out)).2.2.2.2.1, hcm W hW _ _ p0, hcm W hW _ _ p1, hcm W hW _ _ p2, hcm W hW _ _ p3, hcm W hW _ _ p4, hcm W hW _ _ p5⟩
        have HCALL : Hid (∀ W, Below wr.heap.size wr W → Calls Tryz.prog 20 #[.agg #[.int .i64 x0, .string x1, .bool x2, .slice xo xn xc, .slice yo yn yc, .int .i64 x5]] W (RofP N0 (l[j]'hjl) W)) := Lib.hid fun W hW => HIH.out (l[j]'hjl) (HSZ.out j hjl) (HSM.out j hjl) N0 [.int .i64 x0, .string x1, .bool x2, .slice xo xn xc, .slice yo yn yc, .int .i64 x5] W (HY.out.move (Keeps.of_below hW)) (Nat.le_trans HN0.out (Nat.le_trans HBW.out.size hW.size))
        clear hly hcm p0 p1 p2 p3 p4 p5 hkp
        go_upto_region 5 with fail
        clear c0 c1 c2 c3 c4 c5
        refine wp_region_vals (fun L vals W => AllV [some (.pointer (some ⟨W1.heap.size, 4, none⟩)), some (.slice vo j vc), some (.pointer (some ⟨w.heap.size, 4, none⟩)), some (.slice (some ⟨b, off, none⟩) l.length cv0), some (.int .i64 (j : Nat)), some (.pointer (some ⟨b, off + j * 6, none⟩)), some (.agg #[.int .i64 x0, .string x1, .bool x2, .slice xo xn xc, .slice yo yn yc, .int .i64 x5]), none, none, none, some (.pointer (some ⟨W1.heap.size, 4, none⟩)), none] L vals ∧ Ph 9 11 (fun W => Below wr.heap.size wr W) (fun v W => ∃ us3, SxS (fun b => b < N0 ∨ w.heap.size + 2 ≤ b) W1.heap.size W1.heap.size W1 (l.map ofS) v (j + 1) (us' ++ us3) W ∧ W.heap[W1.heap.size]? = some (.cells #[.int .i64 k, .string t, .bool n, .slice lo r.length lc, .slice vo j vc, .int .i64 a, .slice none 0 0, .slice none 0 0] 35 (0, 0))) (fun v W => ∃ us3, SxS (fun b => b < N0 ∨ w.heap.size + 2 ≤ b) W1.heap.size W1.heap.size W1 (l.map ofS) v (j + 1) (us' ++ us3) W ∧ W.heap[W1.heap.size]? = some (.cells #[.int .i64 k, .string t, .bool n, .slice lo r.length lc, v, .int .i64 a, .slice none 0 0, .slice none 0 0] 35 (0, 0))) L vals W ∧ Ph 7 8 (fun _ => True) (fun v W => ∃ us3, v = .agg us3.toArray ∧ SLayP (fun b => b < N0 ∨ wr.heap.size ≤ b) W (ofS (l[j]'hjl)) us3) (fun _ _ => True) L vals W ∧ Ph 8 9 (fun _ => True) (fun v W => ∃ (b : Nat) (us3 : List Value), v = .slice (some ⟨b, 0, none⟩) 1 1 ∧ us3.length = 8 ∧ W.heap[b]? = some (.cells us3.toArray 35 (0, 0)) ∧ SLayP (fun b => b < N0 ∨ wr.heap.size ≤ b) W (ofS (l[j]'hjl)) us3) (fun _ _ => True) L vals W) (by kernel_rfl) ?_ (by kernel_rfl) (by kernel_rfl) ?_ ?_
        · exact ⟨AllV.start _ _, Ph.start (Below.refl _ _).drew, Ph.start trivial, Ph.start trivial⟩
        · refine AllOps.cons ?_ ?_
          · intro L vals aa W hC hB hL hD hdep
            obtain ⟨hV, hP0, hP1, hP2⟩ := hC
            refine .inl ⟨rfl, ?_⟩
            have b0 : aa.tmps.getD 3 undef = .pointer (some ⟨W1.heap.size, 0, none⟩) := hB.off 3 (by kernel_rfl)
            refine goesV_value (v := .pointer (some ⟨W1.heap.size, 4, none⟩)) ?_ ⟨hV.fix rfl, hP0.idle (by decide) (by decide) _, hP1.idle (by decide) (by decide) _, hP2.idle (by decide) (by decide) _⟩
            simp only [execOp, Act.eval, b0]
            go_simp
          refine AllOps.cons ?_ ?_
          · intro L vals aa W hC hB hL hD hdep
            obtain ⟨hV, hP0, hP1, hP2⟩ := hC
            refine .inl ⟨rfl, ?_⟩
            have e0 : aa.tmps.getD 21 undef = .pointer (some ⟨W1.heap.size, 4, none⟩) := hV.at (j := 0) rfl (hdep 0 21 (by kernel_rfl))
            have hpre := hP0.pre (hD 9 (by kernel_rfl))
            obtain ⟨d4, c4, p0, p1, p2, p3, p4, p5⟩ := HGX.out W hpre
            refine goesV_value (v := .slice vo j vc) ?_ ⟨hV.fix rfl, hP0.idle (by decide) (by decide) _, hP1.idle (by decide) (by decide) _, hP2.idle (by decide) (by decide) _⟩
            simp only [execOp, Act.eval, e0]
            go_simp
          refine AllOps.cons ?_ ?_
          · intro L vals aa W hC hB hL hD hdep
            obtain ⟨hV, hP0, hP1, hP2⟩ := hC
            refine .inl ⟨rfl, ?_⟩
            have b0 : aa.tmps.getD 1 undef = .pointer (some ⟨w.heap.size, 0, none⟩) := hB.off 1 (by kernel_rfl)
            refine goesV_value (v := .pointer (some ⟨w.heap.size, 4, none⟩)) ?_ ⟨hV.fix rfl, hP0.idle (by decide) (by decide) _, hP1.idle (by decide) (by decide) _, hP2.idle (by decide) (by decide) _⟩
            simp only [execOp, Act.eval, b0]
            go_simp
          refine AllOps.cons ?_ ?_
          · intro L vals aa W hC hB hL hD hdep
            obtain ⟨hV, hP0, hP1, hP2⟩ := hC
            refine .inl ⟨rfl, ?_⟩
            have e0 : aa.tmps.getD 23 undef = .pointer (some ⟨w.heap.size, 4, none⟩) := hV.at (j := 2) rfl (hdep 2 23 (by kernel_rfl))
            have hpre := hP0.pre (hD 9 (by kernel_rfl))
            obtain ⟨d4, c4, p0, p1, p2, p3, p4, p5⟩ := HGX.out W hpre
            refine goesV_value (v := .slice (some ⟨b, off, none⟩) l.length cv0) ?_ ⟨hV.fix rfl, hP0.idle (by decide) (by decide) _, hP1.idle (by decide) (by decide) _, hP2.idle (by decide) (by decide) _⟩
            simp only [execOp, Act.eval, e0]
            go_simp
          refine AllOps.cons ?_ ?_
          · intro L vals aa W hC hB hL hD hdep
            obtain ⟨hV, hP0, hP1, hP2⟩ := hC
            refine .inl ⟨rfl, ?_⟩
            have b0 : aa.tmps.getD 4 undef = .int .i64 (j : Nat) := hB.off 4 (by kernel_rfl)
            refine goesV_value (v := .int .i64 (j : Nat)) ?_ ⟨hV.fix rfl, hP0.idle (by decide) (by decide) _, hP1.idle (by decide) (by decide) _, hP2.idle (by decide) (by decide) _⟩
            simp only [execOp, Act.eval, b0]
            go_simp
          refine AllOps.cons ?_ ?_
          · intro L vals aa W hC hB hL hD hdep
            obtain ⟨hV, hP0, hP1, hP2⟩ := hC
            refine .inl ⟨rfl, ?_⟩
            have e0 : aa.tmps.getD 24 undef = .slice (some ⟨b, off, none⟩) l.length cv0 := hV.at (j := 3) rfl (hdep 3 24 (by kernel_rfl))
            have e1 : aa.tmps.getD 25 undef = .int .i64 (j : Nat) := hV.at (j := 4) rfl (hdep 4 25 (by kernel_rfl))
            refine goesV_value (v := .pointer (some ⟨b, off + j * 6, none⟩)) ?_ ⟨hV.fix rfl, hP0.idle (by decide) (by decide) _, hP1.idle (by decide) (by decide) _, hP2.idle (by decide) (by decide) _⟩
            simp only [execOp, Act.eval, e0, e1]
            go_simp
          refine AllOps.cons ?_ ?_
          · intro L vals aa W hC hB hL hD hdep
            obtain ⟨hV, hP0, hP1, hP2⟩ := hC
            refine .inl ⟨rfl, ?_⟩
            have e0 : aa.tmps.getD 26 undef = .pointer (some ⟨b, off + j * 6, none⟩) := hV.at (j := 5) rfl (hdep 5 26 (by kernel_rfl))
            have hpre := hP0.pre (hD 9 (by kernel_rfl))
            obtain ⟨d4, c4, p0, p1, p2, p3, p4, p5⟩ := HGX.out W hpre
            refine goesV_value (v := .agg #[.int .i64 x0, .string x1, .bool x2, .slice xo xn xc, .slice yo yn yc, .int .i64 x5]) ?_ ⟨hV.fix rfl, hP0.idle (by decide) (by decide) _, hP1.idle (by decide) (by decide) _, hP2.idle (by decide) (by decide) _⟩
            simp only [execOp, Act.eval, e0]
            go_simp
          refine AllOps.cons ?_ ?_
          · intro L vals aa W hC hB hL hD hdep
            obtain ⟨hV, hP0, hP1, hP2⟩ := hC
            refine .inl ⟨rfl, ?_⟩
            have e0 : aa.tmps.getD 27 undef = .agg #[.int .i64 x0, .string x1, .bool x2, .slice xo xn xc, .slice yo yn yc, .int .i64 x5] := hV.at (j := 6) rfl (hdep 6 27 (by kernel_rfl))
            have hpre := hP0.pre (hD 9 (by kernel_rfl))
            refine goesV_call (f := 20) (args := #[.agg #[.int .i64 x0, .string x1, .bool x2, .slice xo xn xc, .slice yo yn yc, .int .i64 x5]]) ?_ ?_
            · simp only [execOp]
              go_simp
            · exact (HCALL.out W hpre).mono fun e w7 ⟨us3, he, hly3, hb3⟩ => ⟨_, he, hV.free rfl, hP0.ahead (hD 9 (by kernel_rfl)) (by decide) (by decide) _ (hpre.trans (hb3.mono hpre.size)), hP1.first hL (by decide) ⟨us3, rfl, hly3.mono fun b _ hb => hb.imp id fun h => Nat.le_trans hpre.size h⟩, hP2.ahead (hD 8 (by kernel_rfl)) (by decide) (by decide) _ trivial⟩
          refine AllOps.cons ?_ ?_
          · intro L vals aa W hC hB hL hD hdep
            obtain ⟨hV, hP0, hP1, hP2⟩ := hC
            refine .inl ⟨rfl, ?_⟩
            obtain ⟨l0, e0⟩ := hdep 7 28 (by kernel_rfl)
            have hpre := hP0.pre (hD 9 (by kernel_rfl))
            obtain ⟨us3, hu3, hly3⟩ := hP1.mid l0 hL
            obtain ⟨u0, u1, u2, u3, u4, u5, u6, u7, rfl⟩ := sx_cells8 hly3
            rw [hu3] at e0
            refine goesV_world (v := .slice (some ⟨W.heap.size, 0, none⟩) 1 1) (w1 := W.alloc (.cells #[u0, u1, u2, u3, u4, u5, u6, u7] 35)) ?_ ⟨hV.free rfl, hP0.ahead (hD 9 (by kernel_rfl)) (by decide) (by decide) _ (hpre.trans ((below1 W _).mono hpre.size)), Ph.last l0 (by decide) _ trivial, hP2.first hL (by decide) ⟨W.heap.size, [u0, u1, u2, u3, u4, u5, u6, u7], rfl, rfl, heap_alloc_new W _, hly3.move (Keeps.of_below (below1 W _))⟩⟩
            simp only [Array.getD_eq_getD_getElem?] at e0
            simp only [execOp]
            go_simp
          refine AllOps.cons ?_ ?_
          · intro L vals aa W hC hB hL hD hdep
            obtain ⟨hV, hP0, hP1, hP2⟩ := hC
            refine .inl ⟨rfl, ?_⟩
            have e0 : aa.tmps.getD 22 undef = .slice vo j vc := hV.at (j := 1) rfl (hdep 1 22 (by kernel_rfl))
            obtain ⟨l1, e1⟩ := hdep 8 29 (by kernel_rfl)
            have hpre := hP0.pre hL
            obtain ⟨nb, us3, hnb, hl3, hcells, hly3⟩ := hP2.mid l1 hL
            rw [hnb] at e1
            have hn : ∀ i u, us3[i]? = some u → W.cell? ((⟨nb, 0, none⟩ : Addr).add i) = some u := World.news_of_block hcells
            have hds := HDS.out.below hpre
            refine goesV_append _ _ 33 rfl (W1.heap.size + 1) 35 i0 _ 8 136 Tryz.underlying33 HI.out.1 HI.out.2.1 HI.out.2.2.1 HI.out.2.2.2 rfl (by decide) (.slice vo j vc) j us' e0 hds.own ⟨nb, 0, none⟩ 1 1 us3 e1 (by rw [hl3]) hn (one_cellsS hly3) (by have := HLL.out; unfold maxLen; omega) (by have := HLL.out; omega) (by have := hds.lt; omega) ?_
            intro v5 w5 hown5 hgrow5 hmv5
            exact ⟨hV.free rfl, hP0.first hL (by decide) ⟨us3, HDS.out.appended hpre (d := ofS (l[j]'hjl)) (by simp [hjl]) (hly3.mono fun b _ hb => (by have h1 := HBW.out.size; have h2 := HDS.out.lt; have h3 := HS1.out; have h4 := HN0.out; exact ⟨⟨by omega, by omega⟩, fun e => by have := HDS.out.own.lt b e; omega⟩)) hown5 hgrow5 hmv5, (hgrow5.block W1.heap.size hds.lt (fun e => hds.far W1.heap.size (by first | exact e | exact e.symm) rfl)).trans ((hpre.block W1.heap.size HDS.out.lt).trans HBX.out)⟩, Ph.done l1 (hP1.ord l1) (by decide) (by decide) _ trivial, Ph.last l1 (by decide) _ trivial⟩
          refine AllOps.cons ?_ ?_
          · intro L vals aa W hC hB hL hD hdep
            obtain ⟨hV, hP0, hP1, hP2⟩ := hC
            refine .inl ⟨rfl, ?_⟩
            have b0 : aa.tmps.getD 3 undef = .pointer (some ⟨W1.heap.size, 0, none⟩) := hB.off 3 (by kernel_rfl)
            refine goesV_value (v := .pointer (some ⟨W1.heap.size, 4, none⟩)) ?_ ⟨hV.fix rfl, hP0.idle (by decide) (by decide) _, hP1.idle (by decide) (by decide) _, hP2.idle (by decide) (by decide) _⟩
            simp only [execOp, Act.eval, b0]
            go_simp
          refine AllOps.cons ?_ ?_
          · intro L vals aa W hC hB hL hD hdep
            obtain ⟨hV, hP0, hP1, hP2⟩ := hC
            refine .inl ⟨rfl, ?_⟩
            have e0 : aa.tmps.getD 31 undef = .pointer (some ⟨W1.heap.size, 4, none⟩) := hV.at (j := 10) rfl (hdep 10 31 (by kernel_rfl))
            obtain ⟨l1, e1⟩ := hdep 9 30 (by kernel_rfl)
            obtain ⟨us3, hds, hbx⟩ := hP0.mid l1 hL
            obtain ⟨qo, qc, hq⟩ := own_dslice hds.own
            have hz := frozen_heap hbx 4
            have hc4 := cell_heap hbx 4
            rw [hq] at e1
            refine goesV_skip (w1 := W.setCell ⟨W1.heap.size, 4, none⟩ (vals 9)) ?_ ⟨hV.free rfl, Ph.last l1 (by decide) _ ⟨us3, hds.store 4 _, (rowSet hbx 4 _).trans (by simp)⟩, Ph.done (hP2.ord l1) (hP1.ord (hP2.ord l1)) (by decide) (by decide) _ trivial, Ph.done l1 (hP2.ord l1) (by decide) (by decide) _ trivial⟩
            rw [hq]
            simp only [execOp, Act.eval, e0, e1]
            go_simp
          exact trivial
        · intro L vals aa w8 hC hLL hB hall
          obtain ⟨hV, hP0, hP1, hP2⟩ := hC
          have hv : ∀ p ∈ [((21 : Nat), (.pointer (some ⟨W1.heap.size, 4, none⟩) : Value)), ((22 : Nat), (.slice vo j vc : Value)), ((23 : Nat), (.pointer (some ⟨w.heap.size, 4, none⟩) : Value)), ((24 : Nat), (.slice (some ⟨b, off, none⟩) l.length cv0 : Value)), ((25 : Nat), (.int .i64 (j : Nat) : Value)), ((26 : Nat), (.pointer (some ⟨b, off + j * 6, none⟩) : Value)), ((27 : Nat), (.agg #[.int .i64 x0, .string x1, .bool x2, .slice xo xn xc, .slice yo yn yc, .int .i64 x5] : Value)), ((28 : Nat), (vals 7 : Value)), ((29 : Nat), (vals 8 : Value)), ((30 : Nat), (vals 9 : Value)), ((31 : Nat), (.pointer (some ⟨W1.heap.size, 4, none⟩) : Value))], aa.tmps.getD p.1 undef = p.2 := by
            intro p hp
            simp only [List.mem_cons, List.not_mem_nil, or_false] at hp
            rcases hp with rfl | rfl | rfl | rfl | rfl | rfl | rfl | rfl | rfl | rfl | rfl
            · exact (hall 0 _ rfl _ rfl).trans (hV 0 _ rfl (hLL 0 (Nat.le_of_ble_eq_true rfl)))
            · exact (hall 1 _ rfl _ rfl).trans (hV 1 _ rfl (hLL 1 (Nat.le_of_ble_eq_true rfl)))
            · exact (hall 2 _ rfl _ rfl).trans (hV 2 _ rfl (hLL 2 (Nat.le_of_ble_eq_true rfl)))
            · exact (hall 3 _ rfl _ rfl).trans (hV 3 _ rfl (hLL 3 (Nat.le_of_ble_eq_true rfl)))
            · exact (hall 4 _ rfl _ rfl).trans (hV 4 _ rfl (hLL 4 (Nat.le_of_ble_eq_true rfl)))
            · exact (hall 5 _ rfl _ rfl).trans (hV 5 _ rfl (hLL 5 (Nat.le_of_ble_eq_true rfl)))
            · exact (hall 6 _ rfl _ rfl).trans (hV 6 _ rfl (hLL 6 (Nat.le_of_ble_eq_true rfl)))
            · exact hall 7 _ rfl _ rfl
            · exact hall 8 _ rfl _ rfl
            · exact hall 9 _ rfl _ rfl
            · exact (hall 10 _ rfl _ rfl).trans (hV 10 _ rfl (hLL 10 (Nat.le_of_ble_eq_true rfl)))
          have hact := act_fold _ hB hv (by kernel_rfl)
          subst hact
          have hfin := hP0.fin (hLL 11 (Nat.le_of_ble_eq_true rfl))
          clear hv hall hB hV hLL hP0 hP1 hP2
          refine (‹∀ (a : Act) (w : World), Code.wp Tryz.prog _ _ a w → _›) _ w8 ?_
          simp only [List.foldl, List.setIfInBounds_toArray, List.set_cons_succ, List.set_cons_zero]
          obtain ⟨us3, hds5, hbx5⟩ := hfin
          have HDS5 := Lib.hid hds5
          have HBX5 := Lib.hid hbx5
          clear hds5 hbx5
          go_wp2_with fail
          go_roundw
          case measure => simp only [intOf]; omega
          case rel => exact ⟨j + 1, us' ++ us3, vals 9, by go_num, by omega, HBX5.out, HDS5.out⟩
      · obtain rfl : j = l.length := by omega
        have HFIN : Hid (∀ (W9 : World), Keeps (fun b => b ≠ w.heap.size + 1) wr W9 → Below w.heap.size w W9 → SLayP (fun b => b < N0 ∨ w.heap.size ≤ b) W9 (.mk k t n r (l.map ofS) a [] []) [.int .i64 k, .string t, .bool n, .slice lo r.length lc, .slice vo l.length vc, .int .i64 a, .slice none 0 0, .slice none 0 0]) := Lib.hid (by
          intro W9 hkp9 hbw9
          have hss := HS1.out
          have hn0 := HN0.out
          have hown9 := ownsRow_keep HDS.out.own hkp9 fun b hb => by have := (HDS.out.own.lt b hb).1; omega
          have hkq : Keeps (fun b => ((b < N0 ∨ w.heap.size + 2 ≤ b) ∧ b ≠ W1.heap.size) ∧ (Value.slice vo l.length vc).ownBlock ≠ some b) wr W9 := hkp9.mono fun b _ hb => by have := hb.1.1; omega
          have hrow9 := HDS.out.row.move hkq
          rw [List.take_of_length_le (by simp)] at hrow9
          have hkl : Keeps (fun b => b < N0) w W9 := ⟨hbw9.size, fun b hb _ => hbw9.block b hb⟩
          exact .mk HTL.out.1 HTL.out.2 (HRR.out.move HRP.out hkl) (HRP.out.mono HRR.out.lt fun b _ hb => .inl hb) (by rw [List.length_map]; exact RowV.of_own hown9) (fun b _ hb => by have := (HDS.out.own.lt b hb).1; omega) (Iz.nil _) (fun b _ h => by cases h) (Iz.nil _) (fun b _ h => by cases h) (fun i hi => (hrow9.each i hi).mono fun b _ hb => by have := hb.1.1; omega))
        obtain ⟨e0, e1, e2, e3, e4, e5, e6, e7⟩ := rowS8 HBX.out
        have hz := HRS.out
        have q0 := frozen_heap hz 0
        have q1 := frozen_heap hz 1
        have q2 := frozen_heap hz 2
        have q3 := frozen_heap hz 3
        have q4 := frozen_heap hz 4
        have q5 := frozen_heap hz 5
        have q6 := frozen_heap hz 6
        have q7 := frozen_heap hz 7
        obtain ⟨d0, d1, d2, d3, d4, d5, d6, d7⟩ := rowS8 hz
        have hrow := put8w_row hz (.int .i64 k) (.string t) (.bool n) (.slice lo r.length lc) (.slice vo l.length vc) (.int .i64 a) (.slice none 0 0) (.slice none 0 0)
        have hkp := put8w_keep (fun b => b ≠ w.heap.size + 1) wr (w.heap.size + 1) (by simp) (.int .i64 k) (.string t) (.bool n) (.slice lo r.length lc) (.slice vo l.length vc) (.int .i64 a) (.slice none 0 0) (.slice none 0 0)
        have hbf := put8w_below HBW.out (show w.heap.size ≤ w.heap.size + 1 by omega) (.int .i64 k) (.string t) (.bool n) (.slice lo r.length lc) (.slice vo l.length vc) (.int .i64 a) (.slice none 0 0) (.slice none 0 0)
        have HF := Lib.hid (And.intro hrow (And.intro hkp hbf))
        clear hrow hkp hbf hz
        go_wp2_with fail
        clear d0 d1 d2 d3 d4 d5 d6 d7 q0 q1 q2 q3 q4 q5 q6 q7 e0 e1 e2 e3 e4 e5 e6 e7
        unfold put8w at HF
        generalize World.setCell _ ⟨w.heap.size + 1, 7, none⟩ (.slice none 0 0) = W9 at *
        obtain ⟨g0, g1, g2, g3, g4, g5, g6, g7⟩ := rowS8 HF.out.1
        refine bodyPost_ret (v := .agg #[.int .i64 k, .string t, .bool n, .slice lo r.length lc, .slice vo l.length vc, .int .i64 a, .slice none 0 0, .slice none 0 0]) (by simp [results, Tryz.results20, go_sem, g0, g1, g2, g3, g4, g5, g6, g7]) rfl ?_
        exact ⟨_, rfl, HFIN.out _ HF.out.2.1 HF.out.2.2, HF.out.2.2⟩
end Go.Proofs.YtbfcbicbeagjkaaGreatDoor
