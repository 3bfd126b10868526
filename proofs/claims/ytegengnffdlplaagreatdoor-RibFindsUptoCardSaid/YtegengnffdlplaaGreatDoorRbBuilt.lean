/- law11's built, walked. -/
import Derived.Test.YtegengnffdlplaaGreatDoorRbBs
namespace Go.Proofs.YtegengnffdlplaaGreatDoor
open Go.RowKit

theorem row_le {w : World} {lv : Value} {l : List LEn} {us : List Value} (hrow : RowV w lv l.length 10 us) (hin : ∀ (i : Nat) (h : i < l.length), LeAt w (l[i]'h) ((us.drop (i * 10)).take 10)) {i : Nat} (h : i < l.length) :
    ∃ b off cap kx tx nx xo xn xc yo yn yc ax po pn pc qo qn qc, lv = .slice (some ⟨b, off, none⟩) l.length cap ∧ l.length ≤ cap ∧ b < w.heap.size ∧ SLay w (l[i]'h).d [.int .i64 kx, .string tx, .bool nx, .slice xo xn xc, .slice yo yn yc, .int .i64 ax, .slice po pn pc, .slice qo qn qc] ∧ w.cell? ⟨b, off + i * 10, none⟩ = some (.int .i64 (l[i]'h).rib) ∧ w.cell? ⟨b, off + i * 10 + 1, none⟩ = some (.int .i64 kx) ∧ w.cell? ⟨b, off + i * 10 + 2, none⟩ = some (.string tx) ∧ w.cell? ⟨b, off + i * 10 + 3, none⟩ = some (.bool nx) ∧ w.cell? ⟨b, off + i * 10 + 4, none⟩ = some (.slice xo xn xc) ∧ w.cell? ⟨b, off + i * 10 + 5, none⟩ = some (.slice yo yn yc) ∧ w.cell? ⟨b, off + i * 10 + 6, none⟩ = some (.int .i64 ax) ∧ w.cell? ⟨b, off + i * 10 + 7, none⟩ = some (.slice po pn pc) ∧ w.cell? ⟨b, off + i * 10 + 8, none⟩ = some (.slice qo qn qc) ∧ w.cell? ⟨b, off + i * 10 + 9, none⟩ = some (.int .i64 (l[i]'h).lb) := by
  obtain ⟨h1, _, ao, cap, h3, h4, h5⟩ := hrow
  obtain ⟨vs, hv, hl⟩ := hin i h
  obtain ⟨kx, tx, nx, xo, xn, xc, yo, yn, yc, ax, po, pn, pc, qo, qn, qc, rfl⟩ := sx_shapes hl
  rcases h5 with ⟨h5, _⟩ | ⟨b, off, h5, h6, h7⟩
  · omega
  · subst h5
    have hc : ∀ j u, j < 10 → ([.int .i64 (l[i]'h).rib, .int .i64 kx, .string tx, .bool nx, .slice xo xn xc, .slice yo yn yc, .int .i64 ax, .slice po pn pc, .slice qo qn qc, .int .i64 (l[i]'h).lb] : List Value)[j]? = some u → w.cell? ⟨b, off + i * 10 + j, none⟩ = some u := fun j u hj hu => by
      rw [Nat.add_assoc]
      exact h7 _ _ (by
        have e : ([.int .i64 (l[i]'h).rib, .int .i64 kx, .string tx, .bool nx, .slice xo xn xc, .slice yo yn yc, .int .i64 ax, .slice po pn pc, .slice qo qn qc, .int .i64 (l[i]'h).lb] : List Value) = (us.drop (i * 10)).take 10 := hv.symm
        rw [e, List.getElem?_take, if_pos hj, List.getElem?_drop] at hu
        exact hu)
    exact ⟨b, off, cap, kx, tx, nx, xo, xn, xc, yo, yn, yc, ax, po, pn, pc, qo, qn, qc, h3, h4, h6, hl, hc 0 _ (by omega) rfl, hc 1 _ (by omega) rfl, hc 2 _ (by omega) rfl, hc 3 _ (by omega) rfl, hc 4 _ (by omega) rfl, hc 5 _ (by omega) rfl, hc 6 _ (by omega) rfl, hc 7 _ (by omega) rfl, hc 8 _ (by omega) rfl, hc 9 _ (by omega) rfl⟩
/-- What built leaves. -/
def BuP (n : Nat) (w : World) (e : Ending) (w' : World) : Prop := ∃ g m tk es, e = .returned (.tuple #[.pointer (some ⟨g, 0, none⟩), .pointer (some ⟨m, 0, none⟩), .bool true]) ∧ Bt w w' g m n n tk es ∧ es.length ≤ 60

set_option maxRecDepth 100000 in
set_option maxHeartbeats 8000000 in
/-- built. -/
theorem built_any (z0 : Int) (v : Value) (l : List LEn) (us : List Value) (w : World) (hv : RowV w v l.length 10 us) (hin : ∀ (i : Nat) (h : i < l.length), LeAt w (l[i]'h) ((us.drop (i * 10)).take 10)) (hsm : ∀ (i : Nat) (h : i < l.length), SmS 1100000 (l[i]'h).d) (hrg : ∀ (i : Nat) (h : i < l.length), Rg (l[i]'h).d.m) (ht : Tabs w) (h0 : 0 ≤ z0) (h1 : z0 ≤ 255) :
    ∃ n, Calls Tryz.prog 6 #[.int .u8 z0, v] w (BuP n w) := by
  obtain ⟨n, hn⟩ : ∃ n : Nat, z0 % 9 = (n : Int) := ⟨(z0 % 9).toNat, by omega⟩
  refine ⟨n, ?_⟩
  have hn8 : n ≤ 8 := by omega
  have HN8 := Lib.hid hn8
  have HV := Lib.hid hv
  have HIN := Lib.hid hin
  have HSM := Lib.hid hsm
  have HRG := Lib.hid hrg
  have HT := Lib.hid ht
  have hll : l.length ≤ 9223372036854775807 := by obtain ⟨_, hm, _⟩ := hv; unfold maxLen at hm; omega
  obtain ⟨lo, lc, rfl⟩ : ∃ o c, v = .slice o l.length c := by obtain ⟨_, _, o, c, h, _⟩ := hv; exact ⟨o, c, h⟩
  have HLL := Lib.hid hll
  clear hv hin hsm hrg ht
  go_enter Tryz.func6, Tryz.ntmps6
  go_wp2_with fail
  refine (new_any w).mono ?_
  rintro e w1 ⟨rfl, hr1, hb1⟩
  have hm := heap_alloc_new w1 (.cells #[.int .i64 0, .slice none 0 0] 50)
  have hb := below1 w1 (.cells #[.int .i64 0, .slice none 0 0] 50)
  have hbt : Bt w (w1.alloc (.cells #[.int .i64 0, .slice none 0 0] 50)) w.heap.size w1.heap.size 0 0 (fun _ => none) [] :=
    ⟨⟨none, fun _ => False, hr1.below hb, ⟨⟨_, [], hm, World.ownsRow_nil _ _ _ _, EnRow.nil _ _, fun b h => by cases h⟩, fun h => h⟩, fun b h => (by cases h), fun h => (by cases h), fun b h => h.elim⟩, Nat.ne_of_lt hr1.lt, EnM.nil, hb1.trans (hb.mono hb1.size), Nat.le_refl _, hb1.size⟩
  have HBT := Lib.hid hbt
  clear hm hb hbt hr1 hb1
  go_upto_region 2 with fail
  generalize w1.alloc (.cells #[.int .i64 0, .slice none 0 0] 50) = w2 at *
  obtain ⟨g, hg⟩ : ∃ g, w.heap.size = g := ⟨_, rfl⟩
  obtain ⟨m, hm⟩ : ∃ m, w1.heap.size = m := ⟨_, rfl⟩
  have HBT2 : Hid (Bt w w2 g m 0 0 (fun _ => none) []) := Lib.hid (by rw [← hg, ← hm]; exact HBT.out)
  rw [hm]
  conv => rw [hg]
  clear HBT hg hm
  go_wp2_with fail
  go_loopw [9] (fun v wr => ∃ i : Nat, v = .int .i64 (i : Nat) ∧ i ≤ n ∧ Bt w wr g m i i (fun _ => none) []) (fun v _ => n - (intOf v).toNat)
  case atStart => exact ⟨0, rfl, Nat.zero_le _, HBT2.out⟩
  case round =>
    obtain ⟨i, rfl, hi, hbt⟩ := hrel
    have HB := Lib.hid hbt
    clear hbt HBT2
    by_cases hin : i < n
    · have hii : ((i : Nat) : Int) < ((n : Nat) : Int) := by omega
      obtain ⟨lv, hbx⟩ := HB.out.box
      obtain ⟨c0, c1, z0', z1'⟩ := rowp2r hbx
      have HBC : Hid (Bt w (wr.setCell ⟨m, 0, none⟩ (.int .i64 ((i : Int) + 1))) g m i (i + 1) (fun _ => none) []) := Lib.hid (HB.out.count (by omega))
      clear hbx
      go_upto_region 8 with fail
      clear c0 c1 z0' z1'
      generalize wr.setCell ⟨m, 0, none⟩ (.int .i64 ((i : Int) + 1)) = w3 at *
      refine wp_region_vals (fun L vals W => AllV [some (.pointer (some ⟨g, 0, none⟩)), some (.int .i64 ((i + 1 : Nat) : Int)), some (.pointer (some ⟨m, 0, none⟩)), some (.pointer (some ⟨m, 0, none⟩)), some (.pointer (some ⟨m, 0, none⟩)), some (.int .i64 ((i + 1 : Nat) : Int)), some (.bool false)] L vals ∧ Bt w W g m (if L 1 = true then i + 1 else i) (i + 1) (fun _ => none) []) (by kernel_rfl) ?_ (by kernel_rfl) (by kernel_rfl) ?_ ?_
      · exact ⟨AllV.start _ _, HBC.out.drew⟩
      · refine AllOps.cons ?_ ?_
        · intro L vals aa W hC hB hL hD hdep
          obtain ⟨hV, hS⟩ := hC
          refine .inl ⟨rfl, ?_⟩
          have b0 : aa.tmps.getD 7 undef = .pointer (some ⟨g, 0, none⟩) := hB.off 7 (by kernel_rfl)
          refine goesV_value (v := .pointer (some ⟨g, 0, none⟩)) ?_ ⟨hV.fix rfl, by rw [updL_ne (show 1 ≠ 0 by decide)]; exact hS⟩
          simp only [execOp, Act.eval, b0]
          go_simp
        refine AllOps.cons ?_ ?_
        · intro L vals aa W hC hB hL hD hdep
          obtain ⟨hV, hS⟩ := hC
          refine .inl ⟨rfl, ?_⟩
          have e0 : aa.tmps.getD 31 undef = .pointer (some ⟨g, 0, none⟩) := hV.at (j := 0) rfl (hdep 0 31 (by kernel_rfl))
          rw [hL, if_neg (by decide)] at hS
          refine goesV_call (f := 19) (args := #[.pointer (some ⟨g, 0, none⟩)]) ?_ ?_
          · simp only [execOp]
            go_simp
          · exact (hS.crib (by omega)).mono fun e w7 ⟨he, h⟩ => ⟨_, he, hV.fix rfl, by rw [updL_self, if_pos rfl]; exact h⟩
        refine AllOps.cons ?_ ?_
        · intro L vals aa W hC hB hL hD hdep
          obtain ⟨hV, hS⟩ := hC
          refine .inl ⟨rfl, ?_⟩
          have b0 : aa.tmps.getD 8 undef = .pointer (some ⟨m, 0, none⟩) := hB.off 8 (by kernel_rfl)
          refine goesV_value (v := .pointer (some ⟨m, 0, none⟩)) ?_ ⟨hV.fix rfl, by rw [updL_ne (show 1 ≠ 2 by decide)]; exact hS⟩
          simp only [execOp, Act.eval, b0]
          go_simp
        refine AllOps.cons ?_ ?_
        · intro L vals aa W hC hB hL hD hdep
          obtain ⟨hV, hS⟩ := hC
          refine .inl ⟨rfl, ?_⟩
          have e0 : aa.tmps.getD 33 undef = .pointer (some ⟨m, 0, none⟩) := hV.at (j := 2) rfl (hdep 2 33 (by kernel_rfl))
          refine goesV_value (v := .pointer (some ⟨m, 0, none⟩)) ?_ ⟨hV.fix rfl, by rw [updL_ne (show 1 ≠ 3 by decide)]; exact hS⟩
          simp only [execOp, Act.eval, e0]
          go_simp
        refine AllOps.cons ?_ ?_
        · intro L vals aa W hC hB hL hD hdep
          obtain ⟨hV, hS⟩ := hC
          refine .inl ⟨rfl, ?_⟩
          have e0 : aa.tmps.getD 34 undef = .pointer (some ⟨m, 0, none⟩) := hV.at (j := 3) rfl (hdep 3 34 (by kernel_rfl))
          refine goesV_value (v := .pointer (some ⟨m, 0, none⟩)) ?_ ⟨hV.fix rfl, by rw [updL_ne (show 1 ≠ 4 by decide)]; exact hS⟩
          simp only [execOp, Act.eval, e0]
          go_simp
        refine AllOps.cons ?_ ?_
        · intro L vals aa W hC hB hL hD hdep
          obtain ⟨hV, hS⟩ := hC
          refine .inl ⟨rfl, ?_⟩
          have e0 : aa.tmps.getD 35 undef = .pointer (some ⟨m, 0, none⟩) := hV.at (j := 4) rfl (hdep 4 35 (by kernel_rfl))
          obtain ⟨lv, hbx⟩ := hS.box; obtain ⟨c0, c1, _, _⟩ := rowp2r hbx
          refine goesV_value (v := .int .i64 ((i + 1 : Nat) : Int)) ?_ ⟨hV.fix rfl, by rw [updL_ne (show 1 ≠ 5 by decide)]; exact hS⟩
          simp only [execOp, Act.eval, e0]
          go_simp
        refine AllOps.cons ?_ ?_
        · intro L vals aa W hC hB hL hD hdep
          obtain ⟨hV, hS⟩ := hC
          refine .inl ⟨rfl, ?_⟩
          have e0 : aa.tmps.getD 32 undef = .int .i64 ((i + 1 : Nat) : Int) := hV.at (j := 1) rfl (hdep 1 32 (by kernel_rfl))
          have e1 : aa.tmps.getD 36 undef = .int .i64 ((i + 1 : Nat) : Int) := hV.at (j := 5) rfl (hdep 5 36 (by kernel_rfl))
          refine goesV_value (v := .bool false) ?_ ⟨hV.fix rfl, by rw [updL_ne (show 1 ≠ 6 by decide)]; exact hS⟩
          simp only [execOp, Act.eval, e0, e1]
          go_simp
        exact trivial
      · intro L vals aa w8 hC hLL hB hall
        obtain ⟨hV, hS⟩ := hC
        rw [hLL 1 (Nat.le_of_ble_eq_true rfl)] at hS
        have hv : ∀ p ∈ [((31 : Nat), (.pointer (some ⟨g, 0, none⟩) : Value)), ((32 : Nat), (.int .i64 ((i + 1 : Nat) : Int) : Value)), ((33 : Nat), (.pointer (some ⟨m, 0, none⟩) : Value)), ((34 : Nat), (.pointer (some ⟨m, 0, none⟩) : Value)), ((35 : Nat), (.pointer (some ⟨m, 0, none⟩) : Value)), ((36 : Nat), (.int .i64 ((i + 1 : Nat) : Int) : Value)), ((37 : Nat), (.bool false : Value))], aa.tmps.getD p.1 undef = p.2 := by
          intro p hp
          simp only [List.mem_cons, List.not_mem_nil, or_false] at hp
          rcases hp with rfl | rfl | rfl | rfl | rfl | rfl | rfl
          · exact (hall 0 _ rfl _ rfl).trans (hV 0 _ rfl (hLL 0 (Nat.le_of_ble_eq_true rfl)))
          · exact (hall 1 _ rfl _ rfl).trans (hV 1 _ rfl (hLL 1 (Nat.le_of_ble_eq_true rfl)))
          · exact (hall 2 _ rfl _ rfl).trans (hV 2 _ rfl (hLL 2 (Nat.le_of_ble_eq_true rfl)))
          · exact (hall 3 _ rfl _ rfl).trans (hV 3 _ rfl (hLL 3 (Nat.le_of_ble_eq_true rfl)))
          · exact (hall 4 _ rfl _ rfl).trans (hV 4 _ rfl (hLL 4 (Nat.le_of_ble_eq_true rfl)))
          · exact (hall 5 _ rfl _ rfl).trans (hV 5 _ rfl (hLL 5 (Nat.le_of_ble_eq_true rfl)))
          · exact (hall 6 _ rfl _ rfl).trans (hV 6 _ rfl (hLL 6 (Nat.le_of_ble_eq_true rfl)))
        have hact := act_fold _ hB hv (by kernel_rfl)
        subst hact
        have HFN := Lib.hid hS
        clear hv hall hB hV hLL hS
        refine (‹∀ (a : Act) (w : World), Code.wp Tryz.prog _ _ a w → _›) _ w8 ?_
        simp only [List.foldl, List.setIfInBounds_toArray, List.set_cons_succ, List.set_cons_zero]
        go_wp2_with fail
        go_roundw
        case measure => simp only [intOf]; omega
        case rel => exact ⟨i + 1, by go_num, by omega, by have h := HFN.out; rwa [if_pos rfl] at h⟩
    · obtain rfl : n = i := by omega
      go_wp2_with fail
      go_loopw [10] (fun v wr => ∃ (i : Nat) (tk : Ek → Option Int) (es : List En), v = .int .i64 (i : Nat) ∧ i ≤ 60 ∧ i ≤ l.length ∧ es.length ≤ i ∧ Bt w wr g m n n tk es) (fun v _ => 60 - (intOf v).toNat)
      case atStart => exact ⟨0, _, [], rfl, Nat.zero_le _, Nat.zero_le _, Nat.le_refl _, HB.out⟩
      case round =>
        obtain ⟨i, tk, es, rfl, hi60, hil, hes, hbt⟩ := hrel
        have HB2 := Lib.hid hbt
        have HES := Lib.hid hes
        clear hbt HB hes hn
        by_cases hlt : i < l.length
        · have hii : ((i : Nat) : Int) < ((l.length : Nat) : Int) := by omega
          by_cases h6 : i < 60
          · have h66 : ((i : Nat) : Int) < 60 := by omega
            have hll2 := HLL.out
            obtain ⟨b, off, cap, kx, tx, nx, xo, xn, xc, yo, yn, yc, ax, po, pn, pc, qo, qn, qc, hlv, _, hbl, hly, p0, p1, p2, p3, p4, p5, p6, p7, p8, p9⟩ := row_le HV.out HIN.out hlt
            simp only [Value.slice.injEq, true_and] at hlv
            obtain ⟨rfl, rfl⟩ := hlv
            have HD := Lib.hid hly
            have HSM1 := Lib.hid (HSM.out i hlt)
            have HRG1 := Lib.hid (HRG.out i hlt)
            generalize l[i]'hlt = q at *
            have p0 := (HB2.out.bel.cell (show (⟨b, off + i * 10, none⟩ : Addr).block < w.heap.size from hbl)).trans p0
            have p1 := (HB2.out.bel.cell (show (⟨b, off + i * 10 + 1, none⟩ : Addr).block < w.heap.size from hbl)).trans p1
            have p2 := (HB2.out.bel.cell (show (⟨b, off + i * 10 + 2, none⟩ : Addr).block < w.heap.size from hbl)).trans p2
            have p3 := (HB2.out.bel.cell (show (⟨b, off + i * 10 + 3, none⟩ : Addr).block < w.heap.size from hbl)).trans p3
            have p4 := (HB2.out.bel.cell (show (⟨b, off + i * 10 + 4, none⟩ : Addr).block < w.heap.size from hbl)).trans p4
            have p5 := (HB2.out.bel.cell (show (⟨b, off + i * 10 + 5, none⟩ : Addr).block < w.heap.size from hbl)).trans p5
            have p6 := (HB2.out.bel.cell (show (⟨b, off + i * 10 + 6, none⟩ : Addr).block < w.heap.size from hbl)).trans p6
            have p7 := (HB2.out.bel.cell (show (⟨b, off + i * 10 + 7, none⟩ : Addr).block < w.heap.size from hbl)).trans p7
            have p8 := (HB2.out.bel.cell (show (⟨b, off + i * 10 + 8, none⟩ : Addr).block < w.heap.size from hbl)).trans p8
            have p9 := (HB2.out.bel.cell (show (⟨b, off + i * 10 + 9, none⟩ : Addr).block < w.heap.size from hbl)).trans p9
            have hxb := heap_alloc_new wr (.cells #[.int .i64 q.rib, .int .i64 kx, .string tx, .bool nx, .slice xo xn xc, .slice yo yn yc, .int .i64 ax, .slice po pn pc, .slice qo qn qc, .int .i64 q.lb] 52)
            have hb4 := below1 wr (.cells #[.int .i64 q.rib, .int .i64 kx, .string tx, .bool nx, .slice xo xn xc, .slice yo yn yc, .int .i64 ax, .slice po pn pc, .slice qo qn qc, .int .i64 q.lb] 52)
            clear hly
            go_upto_region 14 with fail
            clear p0 p1 p2 p3 p4 p5 p6 p7 p8 p9
            generalize wr.alloc (.cells #[.int .i64 q.rib, .int .i64 kx, .string tx, .bool nx, .slice xo xn xc, .slice yo yn yc, .int .i64 ax, .slice po pn pc, .slice qo qn qc, .int .i64 q.lb] 52) = w4 at *
            have HX4 := Lib.hid hxb
            have H4 := Lib.hid hb4
            clear hxb hb4
            have c0 := cell_heap HX4.out 0
            have c1 := cell_heap HX4.out 1
            have c2 := cell_heap HX4.out 2
            have c3 := cell_heap HX4.out 3
            have c4 := cell_heap HX4.out 4
            have c5 := cell_heap HX4.out 5
            have c6 := cell_heap HX4.out 6
            have c7 := cell_heap HX4.out 7
            have c8 := cell_heap HX4.out 8
            have c9 := cell_heap HX4.out 9
            go_wp2_with fail
            refine (light11_any q.d _ w4 (HD.out.keep (HB2.out.bel.trans (H4.out.mono HB2.out.bel.size)))).mono ?_
            rintro e w5 ⟨rfl, hb5⟩
            have HXB := Lib.hid ((hb5.block _ (Array.getElem?_eq_some_iff.1 HX4.out).1).trans HX4.out)
            have H5 := Lib.hid (H4.out.trans (hb5.mono H4.out.size))
            clear hb5 c0 c1 c2 c3 c4 c5 c6 c7 c8 c9
            cases hlb : ltB q.d with
            | false =>
              clear hlb
              go_wp2_with fail
              go_roundw
              case measure => simp only [intOf]; omega
              case rel => exact ⟨i + 1, tk, es, by go_num, by omega, by omega, by have := HES.out; omega, HB2.out.below H5.out⟩
            | true =>
              have HML : Hid (q.d.m.length ≤ 1000000) := Lib.hid (by unfold ltB at hlb; simp at hlb; omega)
              obtain ⟨ob, S, k1, k2, k3, k4, k5⟩ := HB2.out.ex
              have x0lt : wr.heap.size ≠ g ∧ ob ≠ some wr.heap.size ∧ wr.heap.size ≠ m ∧ ¬ S wr.heap.size := ⟨by have := k1.lt; omega, fun e => by have := k1.mlt e; omega, by have := k2.lt; omega, fun h => by have := (k5 _ h).2.2.2; omega⟩
              have hsz5 := H5.out.size
              have HBS : Hid (Bs w w5 g m n ob S q.rib q.d q.lb tk es false false false undef w5) := Lib.hid (Bs.start (k1.below H5.out) (k2.below H5.out) ⟨HB2.out.lg, by have := k1.lt; omega, HB2.out.lm, by have := k2.lt; omega, HB2.out.ne, k4, fun b hb => ⟨k3 b hb, by have := k1.mlt hb; omega⟩, Nat.le_trans HB2.out.bel.size hsz5, fun b hb => ⟨(k5 b hb).1, (k5 b hb).2.1, (k5 b hb).2.2.1, fun e => k2.far (e ▸ hb), by have := (k5 b hb).2.2.2; omega⟩⟩)
              have HEL : Hid (es.length ≤ 1000) := Lib.hid (by have := HES.out; omega)
              have HPS := Lib.hid HB2.out.en.pos
              have HB5 := Lib.hid (HB2.out.bel.trans (H5.out.mono HB2.out.bel.size))
              obtain ⟨f, HF1⟩ : ∃ f : Int, Hid ((if mayP n q.rib q.d q.lb then (if (tk (q.rib, q.d.t, wrt q.d.m)).getD 0 = 0 then 0 else 2) else 1) = f) := ⟨_, Lib.hid rfl⟩
              have HF2 : Hid ((if mayP n q.rib q.d q.lb then (if atL es q.rib q.d.t q.d.m = 0 then 0 else 2) else 1) = f) := Lib.hid (by have h := HF1.out; rw [HB2.out.en.say _ _ _ HRG1.out] at h; exact h)
              clear k1 k2 k3 k4 k5 hsz5 hlb
              go_upto_region 15 with fail
              refine wp_region_vals (fun L vals W => AllV [some (.pointer (some ⟨g, 0, none⟩)), some (.pointer (some ⟨wr.heap.size, 0, none⟩)), some (.int .i64 q.rib), some (.pointer (some ⟨wr.heap.size, 1, none⟩)), some (.agg #[.int .i64 kx, .string tx, .bool nx, .slice xo xn xc, .slice yo yn yc, .int .i64 ax, .slice po pn pc, .slice qo qn qc]), none, some (.pointer (some ⟨wr.heap.size, 9, none⟩)), some (.int .i64 q.lb), some (.int .i64 f), some (.pointer (some ⟨m, 0, none⟩)), some (.pointer (some ⟨wr.heap.size, 0, none⟩)), some (.int .i64 q.rib), some (.pointer (some ⟨wr.heap.size, 1, none⟩)), some (.agg #[.int .i64 kx, .string tx, .bool nx, .slice xo xn xc, .slice yo yn yc, .int .i64 ax, .slice po pn pc, .slice qo qn qc]), some (.pointer (some ⟨wr.heap.size, 9, none⟩)), some (.int .i64 q.lb), some (.int .i64 f), some (.bool false)] L vals ∧ Bs w w5 g m n ob S q.rib q.d q.lb tk es (L 8) (L 16) (L 5) (vals 5) W) (by kernel_rfl) ?_ (by kernel_rfl) (by kernel_rfl) ?_ ?_
              · exact ⟨AllV.start _ _, HBS.out.drew⟩
              · refine AllOps.cons ?_ ?_
                · intro L vals aa W hC hB hL hD hdep
                  obtain ⟨hV, hS⟩ := hC
                  refine .inl ⟨rfl, ?_⟩
                  have b0 : aa.tmps.getD 7 undef = .pointer (some ⟨g, 0, none⟩) := hB.off 7 (by kernel_rfl)
                  refine goesV_value (v := .pointer (some ⟨g, 0, none⟩)) ?_ ⟨hV.fix rfl, by rw [updL_ne (show 8 ≠ 0 by decide), updL_ne (show 16 ≠ 0 by decide), updL_ne (show 5 ≠ 0 by decide), updV_ne (show 5 ≠ 0 by decide)]; exact hS⟩
                  simp only [execOp, Act.eval, b0]
                  go_simp
                refine AllOps.cons ?_ ?_
                · intro L vals aa W hC hB hL hD hdep
                  obtain ⟨hV, hS⟩ := hC
                  refine .inl ⟨rfl, ?_⟩
                  have b0 : aa.tmps.getD 11 undef = .pointer (some ⟨wr.heap.size, 0, none⟩) := hB.off 11 (by kernel_rfl)
                  refine goesV_value (v := .pointer (some ⟨wr.heap.size, 0, none⟩)) ?_ ⟨hV.fix rfl, by rw [updL_ne (show 8 ≠ 1 by decide), updL_ne (show 16 ≠ 1 by decide), updL_ne (show 5 ≠ 1 by decide), updV_ne (show 5 ≠ 1 by decide)]; exact hS⟩
                  simp only [execOp, Act.eval, b0]
                  go_simp
                refine AllOps.cons ?_ ?_
                · intro L vals aa W hC hB hL hD hdep
                  obtain ⟨hV, hS⟩ := hC
                  refine .inl ⟨rfl, ?_⟩
                  have e0 : aa.tmps.getD 57 undef = .pointer (some ⟨wr.heap.size, 0, none⟩) := hV.at (j := 1) rfl (hdep 1 57 (by kernel_rfl))
                  have hxx := hS.box x0lt HXB.out; have c0 := cell_heap hxx 0; have c1 := cell_heap hxx 1; have c2 := cell_heap hxx 2; have c3 := cell_heap hxx 3; have c4 := cell_heap hxx 4; have c5 := cell_heap hxx 5; have c6 := cell_heap hxx 6; have c7 := cell_heap hxx 7; have c8 := cell_heap hxx 8; have c9 := cell_heap hxx 9
                  refine goesV_value (v := .int .i64 q.rib) ?_ ⟨hV.fix rfl, by rw [updL_ne (show 8 ≠ 2 by decide), updL_ne (show 16 ≠ 2 by decide), updL_ne (show 5 ≠ 2 by decide), updV_ne (show 5 ≠ 2 by decide)]; exact hS⟩
                  simp only [execOp, Act.eval, e0]
                  go_simp
                refine AllOps.cons ?_ ?_
                · intro L vals aa W hC hB hL hD hdep
                  obtain ⟨hV, hS⟩ := hC
                  refine .inl ⟨rfl, ?_⟩
                  have b0 : aa.tmps.getD 11 undef = .pointer (some ⟨wr.heap.size, 0, none⟩) := hB.off 11 (by kernel_rfl)
                  refine goesV_value (v := .pointer (some ⟨wr.heap.size, 1, none⟩)) ?_ ⟨hV.fix rfl, by rw [updL_ne (show 8 ≠ 3 by decide), updL_ne (show 16 ≠ 3 by decide), updL_ne (show 5 ≠ 3 by decide), updV_ne (show 5 ≠ 3 by decide)]; exact hS⟩
                  simp only [execOp, Act.eval, b0]
                  go_simp
                refine AllOps.cons ?_ ?_
                · intro L vals aa W hC hB hL hD hdep
                  obtain ⟨hV, hS⟩ := hC
                  refine .inl ⟨rfl, ?_⟩
                  have e0 : aa.tmps.getD 59 undef = .pointer (some ⟨wr.heap.size, 1, none⟩) := hV.at (j := 3) rfl (hdep 3 59 (by kernel_rfl))
                  have hxx := hS.box x0lt HXB.out; have c0 := cell_heap hxx 0; have c1 := cell_heap hxx 1; have c2 := cell_heap hxx 2; have c3 := cell_heap hxx 3; have c4 := cell_heap hxx 4; have c5 := cell_heap hxx 5; have c6 := cell_heap hxx 6; have c7 := cell_heap hxx 7; have c8 := cell_heap hxx 8; have c9 := cell_heap hxx 9
                  refine goesV_value (v := .agg #[.int .i64 kx, .string tx, .bool nx, .slice xo xn xc, .slice yo yn yc, .int .i64 ax, .slice po pn pc, .slice qo qn qc]) ?_ ⟨hV.fix rfl, by rw [updL_ne (show 8 ≠ 4 by decide), updL_ne (show 16 ≠ 4 by decide), updL_ne (show 5 ≠ 4 by decide), updV_ne (show 5 ≠ 4 by decide)]; exact hS⟩
                  simp only [execOp, Act.eval, e0]
                  go_simp
                refine AllOps.cons ?_ ?_
                · intro L vals aa W hC hB hL hD hdep
                  obtain ⟨hV, hS⟩ := hC
                  refine .inl ⟨rfl, ?_⟩
                  have e0 : aa.tmps.getD 60 undef = .agg #[.int .i64 kx, .string tx, .bool nx, .slice xo xn xc, .slice yo yn yc, .int .i64 ax, .slice po pn pc, .slice qo qn qc] := hV.at (j := 4) rfl (hdep 4 60 (by kernel_rfl))
                  rw [hL] at hS
                  refine goesV_call (f := 10) (args := #[.agg #[.int .i64 kx, .string tx, .bool nx, .slice xo xn xc, .slice yo yn yc, .int .i64 ax, .slice po pn pc, .slice qo qn qc]]) ?_ ?_
                  · simp only [execOp]
                    go_simp
                  · exact (hS.own (f5 := true) HSM1.out (HD.out.keep (HB5.out.trans hS.bel'))).mono fun e w7 ⟨v5, he, h⟩ => ⟨_, he, hV.free rfl, by rw [updL_self, updL_ne (show 8 ≠ 5 by decide), updL_ne (show 16 ≠ 5 by decide), updV_self]; exact h⟩
                refine AllOps.cons ?_ ?_
                · intro L vals aa W hC hB hL hD hdep
                  obtain ⟨hV, hS⟩ := hC
                  refine .inl ⟨rfl, ?_⟩
                  have b0 : aa.tmps.getD 11 undef = .pointer (some ⟨wr.heap.size, 0, none⟩) := hB.off 11 (by kernel_rfl)
                  refine goesV_value (v := .pointer (some ⟨wr.heap.size, 9, none⟩)) ?_ ⟨hV.fix rfl, by rw [updL_ne (show 8 ≠ 6 by decide), updL_ne (show 16 ≠ 6 by decide), updL_ne (show 5 ≠ 6 by decide), updV_ne (show 5 ≠ 6 by decide)]; exact hS⟩
                  simp only [execOp, Act.eval, b0]
                  go_simp
                refine AllOps.cons ?_ ?_
                · intro L vals aa W hC hB hL hD hdep
                  obtain ⟨hV, hS⟩ := hC
                  refine .inl ⟨rfl, ?_⟩
                  have e0 : aa.tmps.getD 62 undef = .pointer (some ⟨wr.heap.size, 9, none⟩) := hV.at (j := 6) rfl (hdep 6 62 (by kernel_rfl))
                  have hxx := hS.box x0lt HXB.out; have c0 := cell_heap hxx 0; have c1 := cell_heap hxx 1; have c2 := cell_heap hxx 2; have c3 := cell_heap hxx 3; have c4 := cell_heap hxx 4; have c5 := cell_heap hxx 5; have c6 := cell_heap hxx 6; have c7 := cell_heap hxx 7; have c8 := cell_heap hxx 8; have c9 := cell_heap hxx 9
                  refine goesV_value (v := .int .i64 q.lb) ?_ ⟨hV.fix rfl, by rw [updL_ne (show 8 ≠ 7 by decide), updL_ne (show 16 ≠ 7 by decide), updL_ne (show 5 ≠ 7 by decide), updV_ne (show 5 ≠ 7 by decide)]; exact hS⟩
                  simp only [execOp, Act.eval, e0]
                  go_simp
                refine AllOps.cons ?_ ?_
                · intro L vals aa W hC hB hL hD hdep
                  obtain ⟨hV, hS⟩ := hC
                  refine .inl ⟨rfl, ?_⟩
                  have e0 : aa.tmps.getD 56 undef = .pointer (some ⟨g, 0, none⟩) := hV.at (j := 0) rfl (hdep 0 56 (by kernel_rfl))
                  have e1 : aa.tmps.getD 58 undef = .int .i64 q.rib := hV.at (j := 2) rfl (hdep 2 58 (by kernel_rfl))
                  obtain ⟨l2, e2⟩ := hdep 5 61 (by kernel_rfl)
                  have e3 : aa.tmps.getD 63 undef = .int .i64 q.lb := hV.at (j := 7) rfl (hdep 7 63 (by kernel_rfl))
                  rw [hL, l2] at hS
                  obtain ⟨us5, hv5, hpc⟩ := hS.piece (f5 := true)
                  rw [hv5] at e2
                  refine goesV_call (f := 21) (args := #[.pointer (some ⟨g, 0, none⟩), .int .i64 q.rib, .agg us5.toArray, .int .i64 q.lb]) ?_ ?_
                  · simp only [execOp]
                    go_simp
                  · exact (hS.cput (f8 := true) (f5 := true) hv5 hpc HSM1.out HML.out HT.out HB5.out).mono fun e w7 ⟨he, h⟩ => ⟨_, he, by rw [HF1.out]; exact hV.fix rfl, by rw [updL_self, updL_ne (show 16 ≠ 8 by decide), updL_ne (show 5 ≠ 8 by decide), l2, updV_ne (show 5 ≠ 8 by decide)]; exact h⟩
                refine AllOps.cons ?_ ?_
                · intro L vals aa W hC hB hL hD hdep
                  obtain ⟨hV, hS⟩ := hC
                  refine .inl ⟨rfl, ?_⟩
                  have b0 : aa.tmps.getD 8 undef = .pointer (some ⟨m, 0, none⟩) := hB.off 8 (by kernel_rfl)
                  refine goesV_value (v := .pointer (some ⟨m, 0, none⟩)) ?_ ⟨hV.fix rfl, by rw [updL_ne (show 8 ≠ 9 by decide), updL_ne (show 16 ≠ 9 by decide), updL_ne (show 5 ≠ 9 by decide), updV_ne (show 5 ≠ 9 by decide)]; exact hS⟩
                  simp only [execOp, Act.eval, b0]
                  go_simp
                refine AllOps.cons ?_ ?_
                · intro L vals aa W hC hB hL hD hdep
                  obtain ⟨hV, hS⟩ := hC
                  refine .inl ⟨rfl, ?_⟩
                  have b0 : aa.tmps.getD 11 undef = .pointer (some ⟨wr.heap.size, 0, none⟩) := hB.off 11 (by kernel_rfl)
                  refine goesV_value (v := .pointer (some ⟨wr.heap.size, 0, none⟩)) ?_ ⟨hV.fix rfl, by rw [updL_ne (show 8 ≠ 10 by decide), updL_ne (show 16 ≠ 10 by decide), updL_ne (show 5 ≠ 10 by decide), updV_ne (show 5 ≠ 10 by decide)]; exact hS⟩
                  simp only [execOp, Act.eval, b0]
                  go_simp
                refine AllOps.cons ?_ ?_
                · intro L vals aa W hC hB hL hD hdep
                  obtain ⟨hV, hS⟩ := hC
                  refine .inl ⟨rfl, ?_⟩
                  have e0 : aa.tmps.getD 66 undef = .pointer (some ⟨wr.heap.size, 0, none⟩) := hV.at (j := 10) rfl (hdep 10 66 (by kernel_rfl))
                  have hxx := hS.box x0lt HXB.out; have c0 := cell_heap hxx 0; have c1 := cell_heap hxx 1; have c2 := cell_heap hxx 2; have c3 := cell_heap hxx 3; have c4 := cell_heap hxx 4; have c5 := cell_heap hxx 5; have c6 := cell_heap hxx 6; have c7 := cell_heap hxx 7; have c8 := cell_heap hxx 8; have c9 := cell_heap hxx 9
                  refine goesV_value (v := .int .i64 q.rib) ?_ ⟨hV.fix rfl, by rw [updL_ne (show 8 ≠ 11 by decide), updL_ne (show 16 ≠ 11 by decide), updL_ne (show 5 ≠ 11 by decide), updV_ne (show 5 ≠ 11 by decide)]; exact hS⟩
                  simp only [execOp, Act.eval, e0]
                  go_simp
                refine AllOps.cons ?_ ?_
                · intro L vals aa W hC hB hL hD hdep
                  obtain ⟨hV, hS⟩ := hC
                  refine .inl ⟨rfl, ?_⟩
                  have b0 : aa.tmps.getD 11 undef = .pointer (some ⟨wr.heap.size, 0, none⟩) := hB.off 11 (by kernel_rfl)
                  refine goesV_value (v := .pointer (some ⟨wr.heap.size, 1, none⟩)) ?_ ⟨hV.fix rfl, by rw [updL_ne (show 8 ≠ 12 by decide), updL_ne (show 16 ≠ 12 by decide), updL_ne (show 5 ≠ 12 by decide), updV_ne (show 5 ≠ 12 by decide)]; exact hS⟩
                  simp only [execOp, Act.eval, b0]
                  go_simp
                refine AllOps.cons ?_ ?_
                · intro L vals aa W hC hB hL hD hdep
                  obtain ⟨hV, hS⟩ := hC
                  refine .inl ⟨rfl, ?_⟩
                  have e0 : aa.tmps.getD 68 undef = .pointer (some ⟨wr.heap.size, 1, none⟩) := hV.at (j := 12) rfl (hdep 12 68 (by kernel_rfl))
                  have hxx := hS.box x0lt HXB.out; have c0 := cell_heap hxx 0; have c1 := cell_heap hxx 1; have c2 := cell_heap hxx 2; have c3 := cell_heap hxx 3; have c4 := cell_heap hxx 4; have c5 := cell_heap hxx 5; have c6 := cell_heap hxx 6; have c7 := cell_heap hxx 7; have c8 := cell_heap hxx 8; have c9 := cell_heap hxx 9
                  refine goesV_value (v := .agg #[.int .i64 kx, .string tx, .bool nx, .slice xo xn xc, .slice yo yn yc, .int .i64 ax, .slice po pn pc, .slice qo qn qc]) ?_ ⟨hV.fix rfl, by rw [updL_ne (show 8 ≠ 13 by decide), updL_ne (show 16 ≠ 13 by decide), updL_ne (show 5 ≠ 13 by decide), updV_ne (show 5 ≠ 13 by decide)]; exact hS⟩
                  simp only [execOp, Act.eval, e0]
                  go_simp
                refine AllOps.cons ?_ ?_
                · intro L vals aa W hC hB hL hD hdep
                  obtain ⟨hV, hS⟩ := hC
                  refine .inl ⟨rfl, ?_⟩
                  have b0 : aa.tmps.getD 11 undef = .pointer (some ⟨wr.heap.size, 0, none⟩) := hB.off 11 (by kernel_rfl)
                  refine goesV_value (v := .pointer (some ⟨wr.heap.size, 9, none⟩)) ?_ ⟨hV.fix rfl, by rw [updL_ne (show 8 ≠ 14 by decide), updL_ne (show 16 ≠ 14 by decide), updL_ne (show 5 ≠ 14 by decide), updV_ne (show 5 ≠ 14 by decide)]; exact hS⟩
                  simp only [execOp, Act.eval, b0]
                  go_simp
                refine AllOps.cons ?_ ?_
                · intro L vals aa W hC hB hL hD hdep
                  obtain ⟨hV, hS⟩ := hC
                  refine .inl ⟨rfl, ?_⟩
                  have e0 : aa.tmps.getD 70 undef = .pointer (some ⟨wr.heap.size, 9, none⟩) := hV.at (j := 14) rfl (hdep 14 70 (by kernel_rfl))
                  have hxx := hS.box x0lt HXB.out; have c0 := cell_heap hxx 0; have c1 := cell_heap hxx 1; have c2 := cell_heap hxx 2; have c3 := cell_heap hxx 3; have c4 := cell_heap hxx 4; have c5 := cell_heap hxx 5; have c6 := cell_heap hxx 6; have c7 := cell_heap hxx 7; have c8 := cell_heap hxx 8; have c9 := cell_heap hxx 9
                  refine goesV_value (v := .int .i64 q.lb) ?_ ⟨hV.fix rfl, by rw [updL_ne (show 8 ≠ 15 by decide), updL_ne (show 16 ≠ 15 by decide), updL_ne (show 5 ≠ 15 by decide), updV_ne (show 5 ≠ 15 by decide)]; exact hS⟩
                  simp only [execOp, Act.eval, e0]
                  go_simp
                refine AllOps.cons ?_ ?_
                · intro L vals aa W hC hB hL hD hdep
                  obtain ⟨hV, hS⟩ := hC
                  refine .inl ⟨rfl, ?_⟩
                  have e0 : aa.tmps.getD 65 undef = .pointer (some ⟨m, 0, none⟩) := hV.at (j := 9) rfl (hdep 9 65 (by kernel_rfl))
                  have e1 : aa.tmps.getD 67 undef = .int .i64 q.rib := hV.at (j := 11) rfl (hdep 11 67 (by kernel_rfl))
                  have e2 : aa.tmps.getD 69 undef = .agg #[.int .i64 kx, .string tx, .bool nx, .slice xo xn xc, .slice yo yn yc, .int .i64 ax, .slice po pn pc, .slice qo qn qc] := hV.at (j := 13) rfl (hdep 13 69 (by kernel_rfl))
                  have e3 : aa.tmps.getD 71 undef = .int .i64 q.lb := hV.at (j := 15) rfl (hdep 15 71 (by kernel_rfl))
                  rw [hL] at hS
                  refine goesV_call (f := 22) (args := #[.pointer (some ⟨m, 0, none⟩), .int .i64 q.rib, .agg #[.int .i64 kx, .string tx, .bool nx, .slice xo xn xc, .slice yo yn yc, .int .i64 ax, .slice po pn pc, .slice qo qn qc], .int .i64 q.lb]) ?_ ?_
                  · simp only [execOp]
                    go_simp
                  · exact (hS.rput (f16 := true) HSM1.out HML.out (HD.out.keep (HB5.out.trans hS.bel')) HEL.out HPS.out).mono fun e w7 ⟨he, h⟩ => ⟨_, he, by rw [HF2.out]; exact hV.fix rfl, by rw [updL_self, updL_ne (show 8 ≠ 16 by decide), updL_ne (show 5 ≠ 16 by decide), updV_ne (show 5 ≠ 16 by decide)]; exact h⟩
                refine AllOps.cons ?_ ?_
                · intro L vals aa W hC hB hL hD hdep
                  obtain ⟨hV, hS⟩ := hC
                  refine .inl ⟨rfl, ?_⟩
                  have e0 : aa.tmps.getD 64 undef = .int .i64 f := hV.at (j := 8) rfl (hdep 8 64 (by kernel_rfl))
                  have e1 : aa.tmps.getD 72 undef = .int .i64 f := hV.at (j := 16) rfl (hdep 16 72 (by kernel_rfl))
                  refine goesV_value (v := .bool false) ?_ ⟨hV.fix rfl, by rw [updL_ne (show 8 ≠ 17 by decide), updL_ne (show 16 ≠ 17 by decide), updL_ne (show 5 ≠ 17 by decide), updV_ne (show 5 ≠ 17 by decide)]; exact hS⟩
                  simp only [execOp, Act.eval, e0, e1]
                  go_simp
                exact trivial
              · intro L vals aa w8 hC hLL hB hall
                obtain ⟨hV, hS⟩ := hC
                rw [hLL 8 (Nat.le_of_ble_eq_true rfl), hLL 16 (Nat.le_of_ble_eq_true rfl), hLL 5 (Nat.le_of_ble_eq_true rfl)] at hS
                have hv : ∀ p ∈ [((56 : Nat), (.pointer (some ⟨g, 0, none⟩) : Value)), ((57 : Nat), (.pointer (some ⟨wr.heap.size, 0, none⟩) : Value)), ((58 : Nat), (.int .i64 q.rib : Value)), ((59 : Nat), (.pointer (some ⟨wr.heap.size, 1, none⟩) : Value)), ((60 : Nat), (.agg #[.int .i64 kx, .string tx, .bool nx, .slice xo xn xc, .slice yo yn yc, .int .i64 ax, .slice po pn pc, .slice qo qn qc] : Value)), ((61 : Nat), (vals 5 : Value)), ((62 : Nat), (.pointer (some ⟨wr.heap.size, 9, none⟩) : Value)), ((63 : Nat), (.int .i64 q.lb : Value)), ((64 : Nat), (.int .i64 f : Value)), ((65 : Nat), (.pointer (some ⟨m, 0, none⟩) : Value)), ((66 : Nat), (.pointer (some ⟨wr.heap.size, 0, none⟩) : Value)), ((67 : Nat), (.int .i64 q.rib : Value)), ((68 : Nat), (.pointer (some ⟨wr.heap.size, 1, none⟩) : Value)), ((69 : Nat), (.agg #[.int .i64 kx, .string tx, .bool nx, .slice xo xn xc, .slice yo yn yc, .int .i64 ax, .slice po pn pc, .slice qo qn qc] : Value)), ((70 : Nat), (.pointer (some ⟨wr.heap.size, 9, none⟩) : Value)), ((71 : Nat), (.int .i64 q.lb : Value)), ((72 : Nat), (.int .i64 f : Value)), ((73 : Nat), (.bool false : Value))], aa.tmps.getD p.1 undef = p.2 := by
                  intro p hp
                  simp only [List.mem_cons, List.not_mem_nil, or_false] at hp
                  rcases hp with rfl | rfl | rfl | rfl | rfl | rfl | rfl | rfl | rfl | rfl | rfl | rfl | rfl | rfl | rfl | rfl | rfl | rfl
                  · exact (hall 0 _ rfl _ rfl).trans (hV 0 _ rfl (hLL 0 (Nat.le_of_ble_eq_true rfl)))
                  · exact (hall 1 _ rfl _ rfl).trans (hV 1 _ rfl (hLL 1 (Nat.le_of_ble_eq_true rfl)))
                  · exact (hall 2 _ rfl _ rfl).trans (hV 2 _ rfl (hLL 2 (Nat.le_of_ble_eq_true rfl)))
                  · exact (hall 3 _ rfl _ rfl).trans (hV 3 _ rfl (hLL 3 (Nat.le_of_ble_eq_true rfl)))
                  · exact (hall 4 _ rfl _ rfl).trans (hV 4 _ rfl (hLL 4 (Nat.le_of_ble_eq_true rfl)))
                  · exact hall 5 _ rfl _ rfl
                  · exact (hall 6 _ rfl _ rfl).trans (hV 6 _ rfl (hLL 6 (Nat.le_of_ble_eq_true rfl)))
                  · exact (hall 7 _ rfl _ rfl).trans (hV 7 _ rfl (hLL 7 (Nat.le_of_ble_eq_true rfl)))
                  · exact (hall 8 _ rfl _ rfl).trans (hV 8 _ rfl (hLL 8 (Nat.le_of_ble_eq_true rfl)))
                  · exact (hall 9 _ rfl _ rfl).trans (hV 9 _ rfl (hLL 9 (Nat.le_of_ble_eq_true rfl)))
                  · exact (hall 10 _ rfl _ rfl).trans (hV 10 _ rfl (hLL 10 (Nat.le_of_ble_eq_true rfl)))
                  · exact (hall 11 _ rfl _ rfl).trans (hV 11 _ rfl (hLL 11 (Nat.le_of_ble_eq_true rfl)))
                  · exact (hall 12 _ rfl _ rfl).trans (hV 12 _ rfl (hLL 12 (Nat.le_of_ble_eq_true rfl)))
                  · exact (hall 13 _ rfl _ rfl).trans (hV 13 _ rfl (hLL 13 (Nat.le_of_ble_eq_true rfl)))
                  · exact (hall 14 _ rfl _ rfl).trans (hV 14 _ rfl (hLL 14 (Nat.le_of_ble_eq_true rfl)))
                  · exact (hall 15 _ rfl _ rfl).trans (hV 15 _ rfl (hLL 15 (Nat.le_of_ble_eq_true rfl)))
                  · exact (hall 16 _ rfl _ rfl).trans (hV 16 _ rfl (hLL 16 (Nat.le_of_ble_eq_true rfl)))
                  · exact (hall 17 _ rfl _ rfl).trans (hV 17 _ rfl (hLL 17 (Nat.le_of_ble_eq_true rfl)))
                have hact := act_fold _ hB hv (by kernel_rfl)
                subst hact
                have HFN := Lib.hid hS
                clear hv hall hB hV hLL hS
                refine (‹∀ (a : Act) (w : World), Code.wp Tryz.prog _ _ a w → _›) _ w8 ?_
                simp only [List.foldl, List.setIfInBounds_toArray, List.set_cons_succ, List.set_cons_zero]
                have hdn := HFN.out.done (f8 := true) (f16 := true) (f5 := true) HB2.out.en HRG1.out HB5.out
                have HDN := Lib.hid hdn
                clear hdn
                go_wp2_with fail
                go_roundw
                case measure => simp only [intOf]; omega
                case rel =>
                  refine ⟨i + 1, _, _, by go_num, by omega, by omega, ?_, HDN.out⟩
                  have := HES.out
                  split
                  · split
                    · simp; omega
                    · omega
                  · omega
          · obtain rfl : i = 60 := by omega
            go_wp2_with fail
            refine bodyPost_ret (v := .tuple #[.pointer (some ⟨g, 0, none⟩), .pointer (some ⟨m, 0, none⟩), .bool true]) (by simp [results, Tryz.results6, go_sem]) rfl ?_
            exact ⟨g, m, tk, es, rfl, HB2.out, HES.out⟩
        · obtain rfl : i = l.length := by omega
          go_wp2_with fail
          refine bodyPost_ret (v := .tuple #[.pointer (some ⟨g, 0, none⟩), .pointer (some ⟨m, 0, none⟩), .bool true]) (by simp [results, Tryz.results6, go_sem]) rfl ?_
          exact ⟨g, m, tk, es, rfl, HB2.out, by have := HES.out; omega⟩
end Go.Proofs.YtegengnffdlplaaGreatDoor
