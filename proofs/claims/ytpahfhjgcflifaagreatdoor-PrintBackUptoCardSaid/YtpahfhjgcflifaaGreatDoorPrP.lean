/- print.Print of any datum; law05's light, own, answers. | The law PrintQuotes, at any world; law05's answers. -/
import Derived.Test.YtpahfhjgcflifaaGreatDoorPrD
namespace Go.Proofs.YtpahfhjgcflifaaGreatDoor
open Go.RowKit

set_option maxRecDepth 100000 in
set_option maxHeartbeats 4000000 in
theorem light5_dm : ∀ (f : Nat) (D : Dm) (us : List Value) (w : World) (dp : Int), dp = 101 - (f : Int) → f ≤ 100 → Lay w D us → Calls Tryz.prog 23 #[.agg us.toArray, .int .i64 dp] w fun e w' => e = .returned (.bool (lightA f D)) ∧ Below w.heap.size w w' := by
  intro f
  induction f with
  | zero =>
    intro D us w dp hdp _ h1
    obtain ⟨k, t, n, r, l, a⟩ := D
    obtain ⟨lv, av, xs, rfl, _⟩ := h1.open'
    simp only [Dm.k, Dm.t, Dm.n, Dm.a]
    have hd : decide ((100 : Int) < dp) = true := by simp; omega
    clear hdp h1
    have hb1 := below1 w (.cells #[.int .i64 k, .string (mkB t), .bool n, lv, av, .int .i64 a] 27)
    have HB1 := Lib.hid hb1
    clear hb1
    show Calls Tryz.prog 23 #[.agg #[.int .i64 k, .string (mkB t), .bool n, lv, av, .int .i64 a], .int .i64 dp] w _
    go_enter Tryz.func23, Tryz.ntmps23
    go_wp2_with fail
    go_ret
    exact ⟨rfl, HB1.out⟩
  | succ f ih =>
    intro D us w dp hdp hf h1
    have HIH := Lib.hid ih
    clear ih
    obtain ⟨k, t, n, r, l, a⟩ := D
    obtain ⟨lv, av, xs, rfl, _, _, _, _, hrow1, hin1⟩ := h1.open'
    simp only [Dm.l] at hrow1 hin1
    simp only [Dm.k, Dm.t, Dm.n, Dm.a]
    have hd : decide ((100 : Int) < dp) = false := by simp; omega
    have HI1 := Lib.hid hin1
    have HW1 := Lib.hid hrow1
    have HDP : Hid (dp + 1 = 101 - (f : Int) ∧ f ≤ 100 ∧ (-1000 : Int) ≤ dp ∧ dp ≤ 100) := Lib.hid (by omega)
    have hdr : (-1000 : Int) ≤ dp ∧ dp ≤ 100 := by omega
    obtain ⟨ao, cv0, rfl⟩ : ∃ o c, av = .slice o l.length c := by obtain ⟨_, _, o, c, h, _⟩ := hrow1; exact ⟨o, c, h⟩
    clear h1 hrow1 hin1 hdp hf
    have hbb := below1 w (.cells #[.int .i64 k, .string (mkB t), .bool n, lv, .slice ao l.length cv0, .int .i64 a] 27)
    have r0 := box1 w #[.int .i64 k, .string (mkB t), .bool n, lv, .slice ao l.length cv0, .int .i64 a] 27
    have HBB := Lib.hid hbb
    have HQ0 := Lib.hid r0
    clear hbb r0
    have hmx : l.length ≤ 9223372036854775807 := by have := HW1.out.2.1; unfold maxLen at this; omega
    have HMX := Lib.hid hmx
    clear hmx
    show Calls Tryz.prog 23 #[.agg #[.int .i64 k, .string (mkB t), .bool n, lv, .slice ao l.length cv0, .int .i64 a], .int .i64 dp] w _
    obtain ⟨a0, a1, a2, a3, a4, a5⟩ := row6 HQ0.out
    by_cases hl : 9000 < l.length
    · have hL : decide ((9000 : Int) < (l.length : Int)) = true := by simp; omega
      have HNO := Lib.hid (light_long (f := f) (k := k) (t := t) (n := n) (r := r) (a := a) hl)
      clear hl
      go_enter Tryz.func23, Tryz.ntmps23
      go_wp2_with fail
      go_ret
      exact ⟨by rw [HNO.out]; rfl, HBB.out⟩
    have hL : decide ((9000 : Int) < (l.length : Int)) = false := by simp; omega
    have HLL := Lib.hid (Nat.le_of_not_lt hl)
    clear hl
    go_enter Tryz.func23, Tryz.ntmps23
    go_wp2_with fail
    clear a0 a1 a2 a3 a4 a5 hL hd
    go_loopw [5] (fun v wr => ∃ i : Nat, i ≤ l.length ∧ v = .int .i64 (i : Nat) ∧ (∀ (j : Nat) (h : j < l.length), j < i → lightA f (l[j]'h) = true) ∧ Below (w.heap.size + 1) (w.alloc (.cells #[.int .i64 k, .string (mkB t), .bool n, lv, .slice ao l.length cv0, .int .i64 a] 27)) wr) (fun v _ => l.length - (intOf v).toNat)
    case atStart => exact ⟨0, Nat.zero_le _, rfl, fun j _ h => by omega, Below.refl _ _⟩
    case round =>
      obtain ⟨i, hi, rfl, hall, hbel⟩ := hrel
      have hmx := HLL.out
      have HALL := Lib.hid hall
      have HBL := Lib.hid hbel
      have HBR := Lib.hid (HBB.out.trans (hbel.mono (by omega)))
      have g0 := (row6 ((hbel.block w.heap.size (by omega)).trans HQ0.out)).2.2.2.2.1
      clear hall hbel
      by_cases hin : i < l.length
      · have hii : ((i : Nat) : Int) < ((l.length : Nat) : Int) := by omega
        obtain ⟨b, off, cap, v0, v1, v2, v3, v4, v5, hav, _, _, hly, p0, p1, p2, p3, p4, p5⟩ := row_datum (HW1.out.below HBR.out) (fun j h => (HI1.out j h).keep HBR.out) hin
        simp only [Value.slice.injEq, true_and] at hav
        obtain ⟨rfl, rfl⟩ := hav
        have HY1 := Lib.hid hly
        obtain ⟨_, _, _, e1, _⟩ := hly.open'
        clear hly e1
        go_wp2_with fail
        clear p0 p1 p2 p3 p4 p5 g0
        refine (HIH.out (l[i]'hin) [v0, v1, v2, v3, v4, v5] _ _ HDP.out.1 HDP.out.2.1 HY1.out).mono ?_
        rintro e w3 ⟨rfl, hb3⟩
        have HB3 := Lib.hid (HBL.out.trans (hb3.mono (by have := HBL.out.size; simp at this; omega)))
        clear hb3
        cases hs : lightA f (l[i]'hin) with
        | false =>
          have HNO := Lib.hid (light_not (k := k) (t := t) (n := n) (r := r) (a := a) hin hs)
          clear hs
          go_wp2_with fail
          go_ret
          exact ⟨by rw [HNO.out]; rfl, HBB.out.trans (HB3.out.mono (by omega))⟩
        | true =>
          have HS := Lib.hid hs
          clear hs
          go_wp2_with fail
          go_roundw
          case measure => simp only [intOf]; omega
          case rel =>
            refine ⟨i + 1, by omega, by go_num, fun j h hj => ?_, HB3.out⟩
            rcases Nat.lt_or_eq_of_le (Nat.le_of_lt_succ hj) with h2 | h2
            · exact HALL.out j h h2
            · subst h2; exact HS.out
      · obtain rfl : i = l.length := by omega
        have HYES := Lib.hid (light_yes (k := k) (t := t) (n := n) (r := r) (a := a) HLL.out fun j h => HALL.out j h h)
        go_wp2_with fail
        go_ret
        exact ⟨by rw [HYES.out]; rfl, HBR.out⟩
set_option maxRecDepth 100000 in
set_option maxHeartbeats 8000000 in
theorem own5_dm (N : Nat) (hN : N ≤ 1100000) : ∀ (m : Nat) (D : Dm), D.sz ≤ m → Sm N D → ∀ (us : List Value) (w : World), Lay w D us → Calls Tryz.prog 25 #[.agg us.toArray] w (OwnPost D w) := by
  obtain ⟨i0, hi, hz0, hz1, hz2⟩ := info_parts infoU32
  obtain ⟨i1, hi1, hy0, hy1, hy2⟩ := info_parts infoDat
  intro m
  induction m with
  | zero => intro D h; have := Dm.sz_eq D; omega
  | succ m ih =>
    intro D hsz hsm us w h1
    have HIH := Lib.hid ih
    clear ih
    obtain ⟨k, t, n, r, l, a⟩ := D
    have HSZ : Hid (∀ (j : Nat) (h : j < l.length), (l[j]'h).sz ≤ m) := Lib.hid fun j h => by
      have := Dm.sz_mem (d := .mk k t n r l a) (x := l[j]) (List.getElem_mem h)
      omega
    obtain ⟨hs1, hs2, hs3, hs4⟩ := hsm.open'
    have HSM := Lib.hid hs4
    obtain ⟨lv, av, xs, rfl, hby, hlt, hlim, hr, hrow1, hin1⟩ := h1.open'
    simp only [Dm.t, Dm.r, Dm.l] at hby hlt hlim hr hrow1 hin1
    simp only [Dm.k, Dm.t, Dm.n, Dm.a]
    have HBY := Lib.hid (And.intro hby (And.intro hlt hlim))
    have HR1 := Lib.hid hr.rowV
    have HI1 := Lib.hid hin1
    have HW1 := Lib.hid hrow1
    obtain ⟨ao, cv0, rfl⟩ : ∃ o c, av = .slice o l.length c := by obtain ⟨_, _, o, c, h, _⟩ := hrow1; exact ⟨o, c, h⟩
    obtain ⟨lo0, lc0, rfl⟩ : ∃ o c, lv = .slice o r.length c := by obtain ⟨_, o, c, h, _⟩ := hr; exact ⟨o, c, h⟩
    clear h1 hby hlt hlim hr hrow1 hin1 hsz hsm hs1 hs4
    have hlr : r.length ≤ 1100000 := by omega
    have hll : l.length ≤ 1100000 := by omega
    clear hs2 hs3
    show Calls Tryz.prog 25 #[.agg #[.int .i64 k, .string (mkB t), .bool n, .slice lo0 r.length lc0, .slice ao l.length cv0, .int .i64 a]] w _
    have hb3 := below3 w (.cells #[.int .i64 k, .string (mkB t), .bool n, .slice lo0 r.length lc0, .slice ao l.length cv0, .int .i64 a] 27) (.cells #[.int .i64 0, .string ⟨#[]⟩, .bool false, .slice none 0 0, .slice none 0 0, .int .i64 0] 27) (.cells #[] 51)
    have hown0 : (((w.alloc (.cells #[.int .i64 k, .string (mkB t), .bool n, .slice lo0 r.length lc0, .slice ao l.length cv0, .int .i64 a] 27)).alloc (.cells #[.int .i64 0, .string ⟨#[]⟩, .bool false, .slice none 0 0, .slice none 0 0, .int .i64 0] 27)).alloc (.cells #[] 51)).ownsRow (w.heap.size + 1 + 1) 51 1 (.slice (some ⟨w.heap.size + 1 + 1, 0, none⟩) 0 0) 0 [] := by
      have := World.ownsRow_made (base := w.heap.size + 1 + 1) (e := 51) (size := 1) ((w.alloc (.cells #[.int .i64 k, .string (mkB t), .bool n, .slice lo0 r.length lc0, .slice ao l.length cv0, .int .i64 a] 27)).alloc (.cells #[.int .i64 0, .string ⟨#[]⟩, .bool false, .slice none 0 0, .slice none 0 0, .int .i64 0] 27)) #[] 0 (by simp) (by simp) (by simp)
      simpa using this
    have HB3 := Lib.hid hb3
    have HX0 : Hid (OwB (((w.alloc (.cells #[.int .i64 k, .string (mkB t), .bool n, .slice lo0 r.length lc0, .slice ao l.length cv0, .int .i64 a] 27)).alloc (.cells #[.int .i64 0, .string ⟨#[]⟩, .bool false, .slice none 0 0, .slice none 0 0, .int .i64 0] 27)).alloc (.cells #[] 51)) w.heap.size k t n (.slice lo0 r.length lc0) (.slice ao l.length cv0) a) := Lib.hid ⟨by
      rw [Below.heap_alloc _ _ _ (by simp; omega), Below.heap_alloc _ _ _ (by simp)]; exact heap_alloc_new w _, by
      rw [Below.heap_alloc _ _ _ (by simp)]
      have := heap_alloc_new (w.alloc (.cells #[.int .i64 k, .string (mkB t), .bool n, .slice lo0 r.length lc0, .slice ao l.length cv0, .int .i64 a] 27)) (.cells #[.int .i64 0, .string ⟨#[]⟩, .bool false, .slice none 0 0, .slice none 0 0, .int .i64 0] 27)
      simpa using this⟩
    have HOW0 := Lib.hid hown0
    have HRV := Lib.hid (HR1.out.below hb3)
    clear hb3 hown0
    go_enter Tryz.func25, Tryz.ntmps25
    go_wp2_with (at_builtin; go_loud (refine wpList_append_row _ rfl _ _ 22 rfl (w.heap.size + 1 + 1) 51 i0 (.int .u32 0) 1 4 Tryz.underlying22 hi hz0 hz1 hz2 rfl (by decide) _ 0 [] rfl HOW0.out _ r.length (r.map fun (x : Nat) => Value.int .u32 (x : Int)) rfl HRV.out (by intro u hu; obtain ⟨_, _, rfl⟩ := List.mem_map.1 hu; rfl) (by unfold maxLen; omega) (by omega) (by simp) ?_); go_loud (intro v' w1 hown1 hgrow hmv; rw [Nat.zero_add, List.nil_append] at hown1; obtain ⟨a', c', rfl⟩ := own_dslice hown1; have HO := Lib.hid hown1; have HG := Lib.hid hgrow; have HZ := Lib.hid (HX0.out.below (w' := w1) (((Below.refl _ _).grown hgrow (by simp) (fun q hq => by cases hq; exact Nat.le_refl _)).mono (Nat.le_refl _))); obtain ⟨c0, c1, c2, c3, c4, c5⟩ := row6 HZ.out.r0; have z3 := frozen_heap HZ.out.r0 3; clear hown1 hgrow hmv HOW0 HX0 HRV))
    have HZ2 := Lib.hid (HZ.out.setL (.slice a' r.length c'))
    have HB2 : Hid (Below w.heap.size w (w1.setCell ⟨w.heap.size, 3, none⟩ (.slice a' r.length c'))) := Lib.hid ((HB3.out.grown HG.out (by simp; omega) (fun q hq => by cases hq; show _ ≤ w.heap.size + 1 + 1; omega)).setCell (by simp) _)
    have HSL2 : Hid (Sl .u32 (w1.setCell ⟨w.heap.size, 3, none⟩ (.slice a' r.length c')) (.slice a' r.length c') r) := Lib.hid (owns_sl (ownsRow_setCell_below HO.out (by simp; omega) _))
    have HIP : Hid (∀ b, (Value.slice a' r.length c').ownBlock = some b → w.heap.size + 2 ≤ b) := Lib.hid fun b hb => (HO.out.lt b hb).1
    clear HO HG HZ c0 c1 c2 c3 c4 c5 z3 hi hz0 hz1 hz2 HB3
    generalize w1.setCell ⟨w.heap.size, 3, none⟩ (.slice a' r.length c') = W2 at *
    go_loopw [3, 4] (fun v i wr => ∃ (j : Nat) (us' : List Value), i = .int .i64 (j : Nat) ∧ j ≤ l.length ∧ wr.ownsRow (w.heap.size + 2) 27 6 v j us' ∧ DmRow (fun b => w.heap.size + 2 ≤ b ∧ v.ownBlock ≠ some b) wr (l.take j) us' ∧ Below (w.heap.size + 2) W2 wr ∧ Sl .u32 wr (.slice a' r.length c') r ∧ InP (fun b => v.ownBlock ≠ some b) r.length (.slice a' r.length c')) (fun _ i _ => l.length - (intOf i).toNat)
    case atStart => exact ⟨0, [], rfl, Nat.zero_le _, World.ownsRow_nil _ _ _ _, DmRow.nil _ _, Below.refl _ _, HSL2.out, fun b _ _ e => by cases e⟩
    case round =>
      obtain ⟨j, us', rfl, hj, hown, hrow, hbel, hsl, hip⟩ := hrel
      obtain ⟨vo, vc, rfl⟩ := own_dslice hown
      have HOW := Lib.hid hown
      have HDR := Lib.hid hrow
      have HBL := Lib.hid hbel
      have HSL := Lib.hid hsl
      have HIN := Lib.hid hip
      have HBR := Lib.hid (HB2.out.trans (hbel.mono (by omega)))
      have HZR := Lib.hid (HZ2.out.below hbel)
      clear hown hrow hbel hsl hip
      obtain ⟨c0, c1, c2, c3, c4, c5⟩ := row6 HZR.out.r0
      by_cases hjl : j < l.length
      · have hii : ((j : Nat) : Int) < ((l.length : Nat) : Int) := by omega
        obtain ⟨b, off, cap, v0, v1, v2, v3, v4, v5, hav, _, _, hly, p0, p1, p2, p3, p4, p5⟩ := row_datum (HW1.out.below HBR.out) (fun j h => (HI1.out j h).keep HBR.out) hjl
        simp only [Value.slice.injEq, true_and] at hav
        obtain ⟨rfl, rfl⟩ := hav
        have HY1 := Lib.hid hly
        obtain ⟨_, _, _, e1, _⟩ := hly.open'
        clear hly e1
        go_wp2_with fail
        clear p0 p1 p2 p3 p4 p5 c0 c1 c2 c3 c4 c5
        refine (HIH.out (l[j]'hjl) (HSZ.out j hjl) (HSM.out j hjl) [v0, v1, v2, v3, v4, v5] _ HY1.out).mono ?_
        rintro e w3 ⟨us3, rfl, hly3, hb3⟩
        have H1 := Lib.hid (one_cells hly3)
        have HL3 := Lib.hid hly3
        obtain ⟨u0, u1, u2, u3, u4, u5, rfl⟩ := dm_cells6 hly3
        have hw3 := hb3.size
        have HB3 := Lib.hid hb3
        have hrow1 := row1 w3 [u0, u1, u2, u3, u4, u5] rfl
        have HR3 := Lib.hid hrow1
        have HB4 := Lib.hid (hb3.trans ((below1 w3 (.cells #[u0, u1, u2, u3, u4, u5] 27)).mono hw3))
        have HO3 := Lib.hid (ownsRow_keep HOW.out (Keeps.of_below (P := fun _ => True) HB4.out) fun _ _ => trivial)
        have hszw := HBL.out.size
        have hszz : w.heap.size + 2 ≤ wr.heap.size := (Array.getElem?_eq_some_iff.1 HZR.out.r1).1
        clear hly3 hb3 hrow1
        go_wp2_with (at_builtin; go_loud (refine wpList_append_row _ rfl _ _ 25 rfl (w.heap.size + 2) 27 i1 (.agg #[.int .i64 0, .string ⟨#[]⟩, .bool false, .slice none 0 0, .slice none 0 0, .int .i64 0]) 6 88 Tryz.underlying25 hi1 hy0 hy1 hy2 rfl (by decide) _ j us' rfl HO3.out _ 1 [u0, u1, u2, u3, u4, u5] rfl HR3.out H1.out (by unfold maxLen; omega) (by omega) (by simp; omega) ?_); go_loud (intro v' w5 hown5 hgrow5 hmv5))
        have HO5 := Lib.hid hown5
        have HG5 := Lib.hid hgrow5
        have HM5 := Lib.hid hmv5
        clear hown5 hgrow5 hmv5
        go_wp2_with fail
        go_roundw
        case measure => simp only [intOf]; omega
        case rel =>
          have hwr3 := HB4.out.size
          have hlt := HOW.out.lt
          refine ⟨j + 1, us' ++ [u0, u1, u2, u3, u4, u5], by go_num, by omega, HO5.out, ?_, ?_, ?_, ?_⟩
          · have h1 := HDR.out.move (Keeps.of_below HB4.out)
            have h2 : LayP (fun b => w.heap.size + 2 ≤ b ∧ (Value.slice vo j vc).ownBlock ≠ some b) (w3.alloc (.cells #[u0, u1, u2, u3, u4, u5] 27)) (l[j]'hjl) [u0, u1, u2, u3, u4, u5] :=
              (HL3.out.move (Keeps.of_below (below1 w3 _))).mono fun b _ hb => ⟨by omega, fun e => by have := (hlt b e).2; omega⟩
            have h3 := h1.appended h2 HG5.out HM5.out
            rw [List.take_add_one, List.getElem?_eq_getElem hjl]
            exact h3
          · exact (HBL.out.trans (HB4.out.mono (by omega))).grown HG5.out (by simp; omega) fun q hq => (HO3.out.lt q hq).1
          · exact (HSL.out.below HB4.out).move HIN.out (Keeps.of_grown HG5.out fun g e hn => hn e)
          · intro b h0 hb e
            have hlv := HSL.out.lt b h0 hb
            rcases HM5.out with h | ⟨b2, h, hge⟩
            · rw [h] at e; exact HIN.out b h0 hb e
            · rw [h] at e
              injection e with e
              simp only [World.size_alloc] at hge
              omega
      · obtain rfl : j = l.length := by omega
        obtain ⟨d0, d1, d2, d3, d4, d5⟩ := row6 HZR.out.r1
        have y0 := frozen_heap HZR.out.r1 0
        have y1 := frozen_heap HZR.out.r1 1
        have y2 := frozen_heap HZR.out.r1 2
        have y3 := frozen_heap HZR.out.r1 3
        have y4 := frozen_heap HZR.out.r1 4
        have y5 := frozen_heap HZR.out.r1 5
        have z4 := frozen_heap HZR.out.r0 4
        go_wp2_with fail
        obtain ⟨hrow, hk⟩ := DB.fill (W := wr.setCell ⟨w.heap.size, 4, none⟩ (.slice vo l.length vc)) (g := w.heap.size + 1) (HZR.out.setA (.slice vo l.length vc)).r1 (.int .i64 k) (.string (mkB t)) (.bool n) (.slice a' r.length c') (.slice vo l.length vc) (.int .i64 a)
        clear c0 c1 c2 c3 c4 c5 d0 d1 d2 d3 d4 d5 y0 y1 y2 y3 y4 y5 z4
        have hkp : Keeps (fun b => w.heap.size + 2 ≤ b) wr (((((((wr.setCell ⟨w.heap.size, 4, none⟩ (.slice vo l.length vc)).setCell ⟨w.heap.size + 1, 0, none⟩ (.int .i64 k)).setCell ⟨w.heap.size + 1, 1, none⟩ (.string (mkB t))).setCell ⟨w.heap.size + 1, 2, none⟩ (.bool n)).setCell ⟨w.heap.size + 1, 3, none⟩ (.slice a' r.length c')).setCell ⟨w.heap.size + 1, 4, none⟩ (.slice vo l.length vc)).setCell ⟨w.heap.size + 1, 5, none⟩ (.int .i64 a)) :=
          (((((((Keeps.refl _ wr).set (by simp) _).set (by simp) _).set (by simp) _).set (by simp) _).set (by simp) _).set (by simp) _).set (by simp) _
        have hbf : Below w.heap.size w (((((((wr.setCell ⟨w.heap.size, 4, none⟩ (.slice vo l.length vc)).setCell ⟨w.heap.size + 1, 0, none⟩ (.int .i64 k)).setCell ⟨w.heap.size + 1, 1, none⟩ (.string (mkB t))).setCell ⟨w.heap.size + 1, 2, none⟩ (.bool n)).setCell ⟨w.heap.size + 1, 3, none⟩ (.slice a' r.length c')).setCell ⟨w.heap.size + 1, 4, none⟩ (.slice vo l.length vc)).setCell ⟨w.heap.size + 1, 5, none⟩ (.int .i64 a)) :=
          (((((((HBR.out).setCell (by simp) _).setCell (by simp) _).setCell (by simp) _).setCell (by simp) _).setCell (by simp) _).setCell (by simp) _).setCell (by simp) _
        generalize World.setCell _ ⟨w.heap.size + 1, 5, none⟩ (.int .i64 a) = W9 at *
        obtain ⟨d0, d1, d2, d3, d4, d5⟩ := row6 hrow
        refine bodyPost_ret (v := .agg #[.int .i64 k, .string (mkB t), .bool n, .slice a' r.length c', .slice vo l.length vc, .int .i64 a]) (by simp [results, Tryz.results25, go_sem, d0, d1, d2, d3, d4, d5]) rfl ?_
        have hown9 := ownsRow_keep HOW.out hkp fun b hb => (HOW.out.lt b hb).1
        have hrow9 := (HDR.out.mono fun b _ hb => hb.1).move hkp
        rw [List.take_length] at hrow9
        exact ⟨_, rfl, .mk HBY.out.1 HBY.out.2.1 HBY.out.2.2 ((HSL.out).move (fun b h0 hb => HIP.out b hb) hkp) (fun b _ hb => by have := HIP.out b hb; omega) (RowV.of_own hown9) (fun b _ hb => by have := (HOW.out.lt b hb).1; omega) (fun i hi => (hrow9.each i hi).mono fun b _ hb => by omega), hbf⟩
theorem preT_by {dot : Bool} {n : Nat} {X : List (List Nat)} (h : ∀ i, By (X.getD i [])) : ∀ i, By (preT dot n X i)
  | 0 => By.nil
  | i + 1 => by
    rw [preT_succ]
    refine (preT_by h i).app (By.app ?_ (h i))
    unfold sepT
    refine By.app ?_ ?_
    · split
      · exact by_of (by decide)
      · exact By.nil
    · split
      · exact by_of (by decide)
      · exact By.nil
theorem tb_by : ∀ (m : Nat) (D : Dm), D.sz ≤ m → ∀ g, okD g D = true → DBy D → By D.tb ∧ D.tb ≠ [] := by
  intro m
  induction m with
  | zero => intro D h; have := sz_pos D; omega
  | succ m ih =>
    intro D hm g hok hdb
    obtain ⟨k, t, n, r, l, a⟩ := D
    obtain ⟨hby, hin⟩ := hdb.open'
    by_cases hk : k = 1 ∨ k = 2 ∨ k = 3
    · obtain ⟨f', _, _, _, _, _, hall⟩ := okD_parts hok hk
      unfold Dm.tb
      rw [tg_node hk]
      unfold lisT
      refine ⟨By.app ?_ (By.app (preT_by (fun i => ?_) _) (by_of (by decide))), ?_⟩
      · unfold hdT
        split
        · exact by_of (by decide)
        · exact by_of (by decide)
      · rcases Nat.lt_or_ge i l.length with hi | hi
        · rw [getD_map hi]
          exact (ih _ (by have := Dm.sz_mem (d := .mk k t n r l a) (x := l[i]'hi) (List.getElem_mem hi); omega) f' (hall i hi) (hin i hi)).1
        · rw [List.getD_eq_getElem?_getD, List.getElem?_eq_none (by rw [List.length_map]; exact hi)]
          exact By.nil
      · unfold hdT
        split <;> simp
    · obtain ⟨rfl, h⟩ := leafAny hok hk
      unfold Dm.tb
      rw [tg_leaf hk]
      rcases h with rfl | rfl | ⟨rfl, c, hc⟩ | ⟨rfl, hs⟩ | rfl | rfl | rfl | rfl
      · refine ⟨hby, ?_⟩
        show t ≠ []
        rintro rfl
        have h2 := leaf_first hok hk (by decide) (by decide) hby
        have h3 : leafX 4 [] n r = [] := by show (chA []).1 = []; unfold chA; rw [chars]; rfl
        rw [h3] at h2
        simp at h2
      · exact ⟨quoT_by' hby, by show quoT t ≠ []; unfold quoT; simp⟩
      · have hscn := (enc_chars hby _ 0 [c] (Nat.le_refl _) (Nat.zero_le _) hc).2 c (by simp)
        refine ⟨?_, by show (35 :: 92 :: nameA (limb (chA t).1 0)) ≠ []; simp⟩
        show By (35 :: 92 :: nameA (limb (chA t).1 0))
        rw [chA_ok hc]
        exact By.consN' (by omega) (By.consN' (by omega) (nameA_by' hscn))
      · exact ⟨numT_by hs, (numT_mem hs).1⟩
      · exact ⟨by show By [35, 116]; exact by_of (by decide), by show ([35, 116] : List Nat) ≠ []; simp⟩
      · exact ⟨by show By [35, 102]; exact by_of (by decide), by show ([35, 102] : List Nat) ≠ []; simp⟩
      · exact ⟨by show By [35, 60, 118, 111, 105, 100, 62]; exact by_of (by decide), by show ([35, 60, 118, 111, 105, 100, 62] : List Nat) ≠ []; simp⟩
      · refine ⟨?_, by show (35 :: 60 :: (t ++ [62])) ≠ []; simp⟩
        show By (35 :: 60 :: (t ++ [62]))
        exact By.consN' (by omega) (By.consN' (by omega) (hby.app (by_of (by decide))))
/-- What Print answers. -/
def PrintPost (D : Dm) (w : World) (e : Ending) (w' : World) : Prop :=
  ((sndD D = true ∧ e = .returned (.tuple #[.string (mkB D.tb), .int .i64 0])) ∨ (sndD D = false ∧ e = .returned (.tuple #[.string ⟨#[]⟩, .int .i64 2]))) ∧ Below w.heap.size w w'
set_option maxRecDepth 100000 in
set_option maxHeartbeats 4000000 in
theorem print_any (D : Dm) (us : List Value) (w : World) (h1 : Lay w D us) (hsm : Sm 1100000 D) (ht : PrT w) :
    Calls Tryz.prog 24 #[.agg us.toArray] w (PrintPost D w) := by
  have HLY := Lib.hid h1
  have HSM := Lib.hid hsm
  have HT := Lib.hid ht
  have HDB := Lib.hid h1.dby
  obtain ⟨k2, t2, n2, o3, m3, c3, o4, m4, c4, a2, rfl⟩ := h1.slots
  have HBB := Lib.hid (below1 w (.cells #[.int .i64 k2, .string t2, .bool n2, .slice o3 m3 c3, .slice o4 m4 c4, .int .i64 a2] 27))
  have HBX := Lib.hid (box1 w #[.int .i64 k2, .string t2, .bool n2, .slice o3 m3 c3, .slice o4 m4 c4, .int .i64 a2] 27)
  obtain ⟨a0, a1, a2', a3, a4, a5⟩ := row6 HBX.out
  clear h1 hsm ht
  show Calls Tryz.prog 24 #[.agg #[.int .i64 k2, .string t2, .bool n2, .slice o3 m3 c3, .slice o4 m4 c4, .int .i64 a2]] w _
  go_enter Tryz.func24, Tryz.ntmps24
  go_wp2_with fail
  clear a0 a1 a2' a3 a4 a5
  refine (dsound_any D [.int .i64 k2, .string t2, .bool n2, .slice o3 m3 c3, .slice o4 m4 c4, .int .i64 a2] _ (HLY.out.keep HBB.out) HSM.out (HT.out.tabs.below HBB.out (Nat.le_refl _))).mono ?_
  rintro e w1 ⟨rfl, hb1⟩
  have HB1 := Lib.hid (HBB.out.trans (hb1.mono HBB.out.size))
  have HBX1 := Lib.hid ((hb1.block w.heap.size (by simp)).trans HBX.out)
  clear hb1
  cases hq : sndD D
  case false =>
    go_wp2_with fail
    go_ret2
    exact ⟨.inr ⟨hq, rfl⟩, HB1.out⟩
  case true =>
    have hq2 := hq
    unfold sndD at hq2
    rw [Bool.and_eq_true, decide_eq_true_iff] at hq2
    have HQ := Lib.hid hq2
    have HQ0 := Lib.hid hq
    clear hq hq2
    have HN := Lib.hid (pn_start w1)
    have HB2 := Lib.hid (below1 w1 (.cells #[.pointer none, .slice none 0 0] 79))
    have hlt := (Array.getElem?_eq_some_iff.1 HBX1.out).1
    obtain ⟨a0, a1, a2', a3, a4, a5⟩ := row6 ((HB2.out.block w.heap.size hlt).trans HBX1.out)
    go_wp2_with fail
    clear a0 a1 a2' a3 a4 a5
    refine (pdatum_any w1 w1.heap.size _ D (Nat.le_refl _) 64 HQ.out.1 HSM.out HQ.out.2 [] [.int .i64 k2, .string t2, .bool n2, .slice o3 m3 c3, .slice o4 m4 c4, .int .i64 a2] _ (HLY.out.keep HB1.out) HN.out (by have := HQ.out.2; simp; omega) ⟨HT.out.below HB1.out, Nat.le_refl _, HB2.out⟩).mono ?_
    rw [List.nil_append]
    rintro e w3 ⟨rfl, h3⟩
    have H3 := Lib.hid h3
    clear h3
    have HY := Lib.hid (tb_by _ D (Nat.le_refl _) 64 HQ.out.1 HDB.out)
    go_wp2_with fail
    refine (w_done (bs := D.tb) H3.out.pn HY.out.2 HY.out.1).mono ?_
    rintro e w4 ⟨rfl, hb4⟩
    have HB4 := Lib.hid (HB1.out.trans ((HB2.out.trans (H3.out.bel.trans hb4)).mono HB1.out.size))
    clear hb4
    go_wp2_with fail
    go_ret2
    exact ⟨.inl ⟨HQ0.out, rfl⟩, HB4.out⟩
/-- The datum of law05's answers. -/
def aaD : Dm := .mk 4 [97] false [] [] 0
def laD : Dm := .mk 1 [] false [] [aaD] 0
theorem laD_snd : sndD laD = true := by
  have h0 : symbA [97] = true := by
    have h1 : chars [97] 0 = ([97], none) := chars_enc [97] (by intro c hc; rw [List.mem_singleton] at hc; subst hc; decide)
    have y1 : symA [97] = true := symA_yes (by decide) (by decide) (by decide) (by decide) (by decide) (by rw [h1]) (by rw [h1]; decide)
    unfold symbA
    rw [atmA_symb (by_of (by decide)) y1]
    rfl
  have h1 : okD 63 aaD = true := by
    unfold aaD
    rw [okD_leaf (by omega) (by omega)]
    unfold wrtA
    rw [if_pos rfl, h0]
    rfl
  have h2 : okD 64 laD = true := by
    unfold laD
    rw [okD_node (.inl rfl)]
    simp only [List.all_cons, List.all_nil, h1, endA]
    rfl
  have h3 : laD.sz ≤ 8192 := by
    unfold laD aaD
    rw [sz_sumA]
    simp [sumA, sz_sumA]
  unfold sndD
  rw [h2, decide_eq_true h3]
  rfl
theorem laD_tb : laD.tb = [40, 97, 41] := by
  unfold Dm.tb laD
  rw [tg_node (.inl rfl)]
  unfold aaD
  simp only [List.map_cons, List.map_nil]
  rw [tg_leaf (by omega)]
  rfl
theorem laD_sm : Sm 1100000 laD := by
  refine .mk (by simp) (by simp) (by simp) fun i hi => ?_
  obtain rfl : i = 0 := by simpa using hi
  exact .mk (by simp) (by simp) (by simp) fun i hi => by simp at hi
set_option maxRecDepth 100000 in
set_option maxHeartbeats 4000000 in
theorem panswers_any (w : World) (ht : PrT w) : Calls Tryz.prog 22 #[] w fun e w' => e = .returned (.bool true) ∧ Below w.heap.size w w' := by
  have HT := Lib.hid ht
  clear ht
  go_enter Tryz.func22, Tryz.ntmps22
  have hr1 := row1 w [.int .i64 4, .string ⟨#[97]⟩, .bool false, .slice none 0 0, .slice none 0 0, .int .i64 0] rfl
  have HL : Hid (Lay (w.alloc (.cells #[.int .i64 4, .string ⟨#[97]⟩, .bool false, .slice none 0 0, .slice none 0 0, .int .i64 0] 27)) laD [.int .i64 1, .string ⟨#[]⟩, .bool false, .slice none 0 0, .slice (some ⟨w.heap.size, 0, none⟩) 1 1, .int .i64 0]) := Lib.hid (by
    refine Lay.mk (t := []) (r := []) (l := [aaD]) By.nil (by simp) (fun i => by simp [limb]) (Sl.nil' _ _) hr1 fun i hi => ?_
    obtain rfl : i = 0 := by simpa using hi
    exact Lay.mk (t := [97]) (r := []) (l := []) (us := []) (by_of (by decide)) (by unfold maxLen; simp) (fun i => by simp [limb]) (Sl.nil' _ _) ⟨rfl, by unfold maxLen; simp, none, 0, rfl, Nat.le_refl _, .inl ⟨rfl, fun _ => rfl⟩⟩ fun i hi => by simp at hi)
  have HB := Lib.hid (below1 w (.cells #[.int .i64 4, .string ⟨#[97]⟩, .bool false, .slice none 0 0, .slice none 0 0, .int .i64 0] 27))
  clear hr1
  go_wp2_with fail
  refine (print_any laD [.int .i64 1, .string ⟨#[]⟩, .bool false, .slice none 0 0, .slice (some ⟨w.heap.size, 0, none⟩) 1 1, .int .i64 0] _ HL.out laD_sm (HT.out.below HB.out)).mono ?_
  rintro e w1 ⟨⟨_, rfl⟩ | ⟨h, _⟩, hb1⟩
  · rw [laD_tb, show mkB [40, 97, 41] = ⟨#[40, 97, 41]⟩ from rfl]
    have H1 := Lib.hid (HB.out.trans (hb1.mono HB.out.size))
    clear hb1
    go_wp2_with fail
    go_ret
    exact ⟨rfl, H1.out⟩
  · rw [laD_snd] at h; cases h
end Go.Proofs.YtpahfhjgcflifaaGreatDoor
namespace Go.Proofs.YtpahfhjgcflifaaGreatDoor
open Go.RowKit

end Go.Proofs.YtpahfhjgcflifaaGreatDoor
