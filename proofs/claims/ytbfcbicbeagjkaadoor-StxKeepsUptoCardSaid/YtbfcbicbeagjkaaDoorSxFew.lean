/- stx.few: no more pieces in a piece, and limbs in these, than may be. -/
import Derived.Test.YtbfcbicbeagjkaaDoorSxMath
import Derived.Test.YtbfcbicbeagjkaaDoorSxP
import Derived.Test.YtbfcbicbeagjkaaDoorTkSc
import Derived.LoopTactic
import Derived.Deep.Cut
import Derived.Laws.EntriesVeiled
namespace Go.Proofs.YtbfcbicbeagjkaaDoor
open Go.RowKit

/-- The i-th of a row of pieces, and in which blocks it lies. -/
theorem row_sxP {P : Nat → Prop} {w : World} {av : Value} {l : List Sx} {us : List Value} (hrow : RowV w av l.length 8 us) (hin : SxRow P w l us) {i : Nat} (h : i < l.length) :
    ∃ b off cap v0 v1 v2 v3 v4 v5 v6 v7, av = .slice (some ⟨b, off, none⟩) l.length cap ∧ l.length ≤ cap ∧ b < w.heap.size ∧ SLayP P w (l[i]'h) [v0, v1, v2, v3, v4, v5, v6, v7] ∧ w.cell? ⟨b, off + i * 8, none⟩ = some v0 ∧ w.cell? ⟨b, off + i * 8 + 1, none⟩ = some v1 ∧ w.cell? ⟨b, off + i * 8 + 2, none⟩ = some v2 ∧
      w.cell? ⟨b, off + i * 8 + 3, none⟩ = some v3 ∧ w.cell? ⟨b, off + i * 8 + 4, none⟩ = some v4 ∧ w.cell? ⟨b, off + i * 8 + 5, none⟩ = some v5 ∧ w.cell? ⟨b, off + i * 8 + 6, none⟩ = some v6 ∧ w.cell? ⟨b, off + i * 8 + 7, none⟩ = some v7 := by
  obtain ⟨h1, _, ao, cap, h3, h4, h5⟩ := hrow
  have hl := hin.each i h
  have hlen := hl.len
  rcases h5 with ⟨h5, _⟩ | ⟨b, off, h5, h6, h7⟩
  · omega
  · have hg : ∀ j, j < 8 → ((us.drop (i * 8)).take 8)[j]? = us[i * 8 + j]? := fun j hj => by rw [List.getElem?_take, if_pos hj, List.getElem?_drop]
    generalize (us.drop (i * 8)).take 8 = es at *
    match es, hlen with
    | [v0, v1, v2, v3, v4, v5, v6, v7], _ =>
      subst h5
      have hc : ∀ j u, j < 8 → ([v0, v1, v2, v3, v4, v5, v6, v7] : List Value)[j]? = some u → w.cell? ⟨b, off + i * 8 + j, none⟩ = some u := fun j u hj hu => by
        rw [Nat.add_assoc]
        exact h7 _ _ (by rw [← hg j hj]; exact hu)
      exact ⟨b, off, cap, v0, v1, v2, v3, v4, v5, v6, v7, h3, h4, h6, hl, hc 0 _ (by omega) rfl, hc 1 _ (by omega) rfl, hc 2 _ (by omega) rfl, hc 3 _ (by omega) rfl, hc 4 _ (by omega) rfl, hc 5 _ (by omega) rfl, hc 6 _ (by omega) rfl, hc 7 _ (by omega) rfl⟩
def ovF (g : Nat) : Value := .func (.func 50) #[] #[.pointer (some ⟨g, 0, none⟩), .pointer (some ⟨g + 1, 0, none⟩)]
/-- How many may still come, and the function itself. -/
structure OvB (w : World) (g : Nat) (L : Int) : Prop where
  r0 : w.heap[g]? = some (.cells #[.int .i64 L] 3 (0, 0))
  r1 : w.heap[g + 1]? = some (.cells #[ovF g] 49 (0, 0))
theorem OvB.lt {w : World} {g : Nat} {L : Int} (h : OvB w g L) : g + 1 < w.heap.size := (Array.getElem?_eq_some_iff.1 h.r1).1
theorem OvB.step {w w' : World} {g : Nat} {L : Int} (h : OvB w g L) (hb : Below w.heap.size w w') : OvB w' g L := ⟨(hb.block g (by have := h.lt; omega)).trans h.r0, (hb.block (g + 1) h.lt).trans h.r1⟩
theorem OvB.set {w : World} {g : Nat} {L : Int} (h : OvB w g L) (L' : Int) : OvB (w.setCell ⟨g, 0, none⟩ (.int .i64 L')) g L' := by
  refine ⟨?_, (Below.heap_setCell _ _ _ _ (by simp)).trans h.r1⟩
  simp only [World.setCell, Array.getElem?_modify, if_true, h.r0]
  rfl
theorem OvB.facts {w : World} {g : Nat} {L : Int} (h : OvB w g L) : w.cell? ⟨g, 0, none⟩ = some (.int .i64 L) ∧ w.frozen? ⟨g, 0, none⟩ = false ∧ w.cell? ⟨g + 1, 0, none⟩ = some (ovF g) := ⟨cell_heap h.r0 0, frozen_heap h.r0 0, cell_heap h.r1 0⟩
def OvPost (g : Nat) (L : Int) (D : Sx) (w : World) (e : Ending) (w' : World) : Prop :=
  ∃ b L', e = .returned (.bool b) ∧ Ks g w w' ∧ OvB w' g L' ∧ -1 ≤ L' ∧ L' ≤ 8192 ∧ (b = false → L' = L - D.sz ∧ 0 ≤ L' ∧ lmsB D = true) ∧ (b = true → L < D.sz ∨ lmsB D = false)
theorem OvPost.yes {g : Nat} {L L' : Int} {D : Sx} {w w' : World} (hk : Ks g w w') (ho : OvB w' g L') (h1 : -1 ≤ L' ∧ L' ≤ 8192) (h : L < D.sz ∨ lmsB D = false) : OvPost g L D w (.returned (.bool true)) w' := ⟨true, L', rfl, hk, ho, h1.1, h1.2, fun h => (by cases h), fun _ => h⟩
theorem OvPost.no {g : Nat} {L L' : Int} {D : Sx} {w w' : World} (hk : Ks g w w') (ho : OvB w' g L') (h0 : L' ≤ 8192) (h : L' = L - D.sz ∧ 0 ≤ L' ∧ lmsB D = true) : OvPost g L D w (.returned (.bool false)) w' := ⟨false, L', rfl, hk, ho, by omega, h0, fun _ => h, fun h => (by cases h)⟩
def IxPost (g : Nat) (L : Int) (l : List Sx) (w : World) (e : Ending) (w' : World) : Prop :=
  ∃ z L', e = .returned (.int .i64 z) ∧ -1 ≤ z ∧ z ≤ l.length ∧ Ks g w w' ∧ OvB w' g L' ∧ -1 ≤ L' ∧ L' ≤ 8192 ∧ (z < 0 → L' = L - xzs l l.length ∧ 0 ≤ L' ∧ ∀ (j : Nat) (h : j < l.length), lmsB (l[j]'h) = true) ∧ (0 ≤ z → L < xzs l l.length ∨ ∃ (j : Nat) (h : j < l.length), lmsB (l[j]'h) = false)
def Ov (g : Nat) (D : Sx) : Prop := ∀ (us : List Value) (w : World) (L : Int), 0 ≤ L → L ≤ 8192 → SLayP (fun b => b ≠ g) w D us → OvB w g L → Calls Tryd.prog 50 #[.agg us.toArray, .pointer (some ⟨g, 0, none⟩), .pointer (some ⟨g + 1, 0, none⟩)] w (OvPost g L D w)

set_option maxRecDepth 100000 in
set_option maxHeartbeats 4000000 in
theorem ovidx_any (g : Nat) (l : List Sx) (HS : ∀ (j : Nat) (h : j < l.length), Ov g (l[j]'h)) (av : Value) (us : List Value) (w : World) (L : Int) (h0 : 0 ≤ L) (hL : L ≤ 8192) (hrow : RowV w av l.length 8 us) (hap : InP (fun b => b ≠ g) l.length av) (hin : SxRow (fun b => b ≠ g) w l us) (hov : OvB w g L) :
    Calls Tryd.prog 55 #[av, ovF g] w (IxPost g L l w) := by
  have HH := Lib.hid HS; clear HS
  have HRW := Lib.hid hrow
  have HAP := Lib.hid hap
  have HIN := Lib.hid hin
  have HOV := Lib.hid hov
  have hmx : l.length ≤ 9223372036854775807 := by have := hrow.2.1; unfold maxLen at this; omega
  have HMX := Lib.hid hmx
  obtain ⟨ao, cap, rfl⟩ : ∃ o c, av = .slice o l.length c := by obtain ⟨_, _, o, c, h, _⟩ := hrow; exact ⟨o, c, h⟩
  have HL0 := Lib.hid (And.intro h0 hL)
  clear hrow hap hin hov h0 hL
  unfold ovF
  go_enter Tryd.func55, Tryd.ntmps55
  go_wp2_with fail
  go_loopw [8] (fun v wr => ∃ (i : Nat) (L' : Int), i ≤ l.length ∧ v = .int .i64 (i : Nat) ∧ L' = L - xzs l i ∧ 0 ≤ L' ∧ (∀ (j : Nat) (h : j < l.length), j < i → lmsB (l[j]'h) = true) ∧ Ks g w wr ∧ OvB wr g L') (fun v _ => l.length - (intOf v).toNat)
  case atStart => exact ⟨0, L, Nat.zero_le _, rfl, by rw [xzs_zero]; simp, HL0.out.1, fun j _ h => by omega, Ks.refl _ _, HOV.out⟩
  case round =>
    obtain ⟨i, L', hi, rfl, hLe, hL0, hall, hks, hob⟩ := hrel
    have hmx := HMX.out
    have HALL := Lib.hid hall
    have HKS := Lib.hid hks
    have HOB := Lib.hid hob
    have HLE := Lib.hid (And.intro hLe hL0)
    clear hall hks hob hLe hL0
    by_cases hin : i < l.length
    · have hii : ((i : Nat) : Int) < ((l.length : Nat) : Int) := by omega
      have hkp : Keeps (fun b => b ≠ g) w wr := Keeps.of_ks HKS.out (by simp)
      obtain ⟨b, off, cap', v0, v1, v2, v3, v4, v5, v6, v7, hav, _, _, hly, p0, p1, p2, p3, p4, p5, p6, p7⟩ := row_sxP (HRW.out.move HAP.out hkp) (HIN.out.move hkp) hin
      simp only [Value.slice.injEq, true_and] at hav
      obtain ⟨rfl, rfl⟩ := hav
      have HY := Lib.hid hly
      clear hly hkp
      go_wp2_with fail
      clear p0 p1 p2 p3 p4 p5 p6 p7
      refine (HH.out i hin [v0, v1, v2, v3, v4, v5, v6, v7] _ L' HLE.out.2 (by have := HLE.out; have := HL0.out; omega) HY.out HOB.out).mono ?_
      rintro e w3 ⟨bb, L2, rfl, hk3, ho3, hL1, hL2, hno, hyes⟩
      have HK3 := Lib.hid (HKS.out.trans hk3)
      have HO3 := Lib.hid ho3
      cases bb with
      | true =>
        have HV := Lib.hid (hyes rfl)
        have HR := Lib.hid (And.intro hL1 hL2)
        clear hk3 ho3 hno hyes hL1 hL2
        go_wp2_with fail
        go_ret
        refine ⟨i, L2, rfl, by omega, by omega, HK3.out, HO3.out, HR.out.1, HR.out.2, fun h => by omega, fun _ => ?_⟩
        rcases HV.out with h | h
        · left
          have h1 := HLE.out.1
          have h2 := xzs_succ hin
          have h3 := xzs_le (l := l) (i := i + 1) hin
          omega
        · exact .inr ⟨i, hin, h⟩
      | false =>
        have HV := Lib.hid (hno rfl)
        clear hk3 ho3 hno hyes hL1 hL2
        go_wp2_with fail
        go_roundw
        case measure => simp only [intOf]; omega
        case rel =>
          refine ⟨i + 1, L2, by omega, by go_num, ?_, HV.out.2.1, fun j h hj => ?_, HK3.out, HO3.out⟩
          · have h1 := HLE.out.1
            have h2 := xzs_succ hin
            have h3 := HV.out.1
            omega
          · rcases Nat.lt_or_eq_of_le (Nat.le_of_lt_succ hj) with h2 | h2
            · exact HALL.out j h h2
            · subst h2; exact HV.out.2.2
    · obtain rfl : i = l.length := by omega
      go_wp2_with fail
      go_ret
      exact ⟨-1, L', rfl, by omega, by omega, HKS.out, HOB.out, by have := HLE.out; omega, by have := HLE.out; have := HL0.out; omega, fun _ => ⟨HLE.out.1, HLE.out.2, fun j h => HALL.out j h h⟩, fun h => by omega⟩

set_option maxRecDepth 100000 in
set_option maxHeartbeats 4000000 in
theorem ovcon_any (g : Nat) (l : List Sx) (HS : ∀ (j : Nat) (h : j < l.length), Ov g (l[j]'h)) (av : Value) (us : List Value) (w : World) (L : Int) (h0 : 0 ≤ L) (hL : L ≤ 8192) (hrow : RowV w av l.length 8 us) (hap : InP (fun b => b ≠ g) l.length av) (hin : SxRow (fun b => b ≠ g) w l us) (hov : OvB w g L) :
    Calls Tryd.prog 44 #[av, ovF g] w fun e w' => ∃ b L', e = .returned (.bool b) ∧ Ks g w w' ∧ OvB w' g L' ∧ -1 ≤ L' ∧ L' ≤ 8192 ∧ (b = false → L' = L - xzs l l.length ∧ 0 ≤ L' ∧ ∀ (j : Nat) (h : j < l.length), lmsB (l[j]'h) = true) ∧ (b = true → L < xzs l l.length ∨ ∃ (j : Nat) (h : j < l.length), lmsB (l[j]'h) = false) := by
  have HC := Lib.hid (ovidx_any g l HS av us w L h0 hL hrow hap hin hov)
  have hmx : l.length ≤ 9223372036854775807 := by have := hrow.2.1; unfold maxLen at this; omega
  obtain ⟨ao, cap, rfl⟩ : ∃ o c, av = .slice o l.length c := by obtain ⟨_, _, o, c, h, _⟩ := hrow; exact ⟨o, c, h⟩
  clear HS h0 hL hrow hap hin hov
  unfold ovF at HC ⊢
  go_enter Tryd.func44, Tryd.ntmps44
  go_wp2_with fail
  refine HC.out.mono ?_
  rintro e w3 ⟨z, L2, rfl, hz1, hz2, hk3, ho3, hL1, hL2, hno, hyes⟩
  have HR := Lib.hid (And.intro hk3 (And.intro ho3 (And.intro hL1 hL2)))
  have HN := Lib.hid hno
  have HY := Lib.hid hyes
  clear hk3 ho3 hL1 hL2 hno hyes
  by_cases hz : 0 ≤ z
  · have hd : decide ((0 : Int) ≤ z) = true := by simpa using hz
    have HZ := Lib.hid hz
    clear hz
    go_wp2_with fail
    go_ret
    exact ⟨true, L2, rfl, HR.out.1, HR.out.2.1, HR.out.2.2.1, HR.out.2.2.2, fun h => (by cases h), fun _ => HY.out HZ.out⟩
  · have hd : decide ((0 : Int) ≤ z) = false := by simpa using hz
    have HZ : Hid (z < 0) := Lib.hid (by omega)
    clear hz
    go_wp2_with fail
    go_ret
    exact ⟨false, L2, rfl, HR.out.1, HR.out.2.1, HR.out.2.2.1, HR.out.2.2.2, fun _ => HN.out HZ.out, fun h => (by cases h)⟩

set_option maxRecDepth 100000 in
set_option maxHeartbeats 4000000 in
theorem over_any (g : Nat) : ∀ (m : Nat) (D : Sx), D.sz ≤ m → Ov g D := by
  intro m
  induction m with
  | zero => intro D h; have := D.sz_pos; omega
  | succ m ih =>
    intro D hsz us w L h0 hL h1 hov
    have HIH := Lib.hid ih
    clear ih
    obtain ⟨k, t, n, r, l, a, mm, s⟩ := D
    have HSZ : Hid (∀ (j : Nat) (h : j < l.length), (l[j]'h).sz ≤ m) := Lib.hid fun j h => by
      have := Sx.sz_mem (d := .mk k t n r l a mm s) (x := l[j]) (List.getElem_mem h)
      omega
    have HSN : Hid ((Sx.mk k t n r l a mm s).sz = 1 + xzs l l.length) := Lib.hid xzs_node
    obtain ⟨lv, av, mv, sv, vs, rfl, ht, hlim, hr, hrp, hrow, hap, hm, hmp, hs, hsp, hin⟩ := h1.row
    have HRW := Lib.hid hrow
    have HAP := Lib.hid hap
    have HIN := Lib.hid hin
    have hmr : r.length ≤ 9223372036854775807 := by have := hr.2.1; unfold maxLen at this; omega
    obtain ⟨ao, cv0, rfl⟩ : ∃ o c, av = .slice o l.length c := by obtain ⟨_, _, o, c, h, _⟩ := hrow; exact ⟨o, c, h⟩
    obtain ⟨lo0, lc0, rfl⟩ : ∃ o c, lv = .slice o r.length c := by obtain ⟨_, _, o, c, h, _⟩ := hr; exact ⟨o, c, h⟩
    clear h1 ht hlim hr hrp hrow hap hm hmp hs hsp hin hsz
    show Calls Tryd.prog 50 #[.agg #[.int .i64 k, .string t, .bool n, .slice lo0 r.length lc0, .slice ao l.length cv0, .int .i64 a, mv, sv], .pointer (some ⟨g, 0, none⟩), .pointer (some ⟨g + 1, 0, none⟩)] w _
    have hlt := hov.lt
    obtain ⟨W1, hW1⟩ : ∃ W1, W1 = w.alloc (.cells #[.int .i64 k, .string t, .bool n, .slice lo0 r.length lc0, .slice ao l.length cv0, .int .i64 a, mv, sv] 28) := ⟨_, rfl⟩
    have hx1 : W1.heap[w.heap.size]? = some (.cells #[.int .i64 k, .string t, .bool n, .slice lo0 r.length lc0, .slice ao l.length cv0, .int .i64 a, mv, sv] 28 (0, 0)) := by rw [hW1]; exact heap_alloc_new w _
    have hb1 : Below w.heap.size w W1 := by rw [hW1]; exact below1 w _
    have HOV1 := Lib.hid (hov.step hb1)
    have HX1 := Lib.hid hx1
    have HB1 := Lib.hid hb1
    have HLT := Lib.hid hlt
    clear hx1 hb1 hlt hov
    go_enter Tryd.func50, Tryd.ntmps50
    go_upto_region 1 with fail
    rw [← hW1]
    clear hW1
    obtain ⟨q0, q1, q2⟩ := HOV1.out.facts
    go_upto_region 2 with fail
    have HOV2 := Lib.hid (HOV1.out.set (L - 1))
    have HX2 : Hid ((W1.setCell ⟨g, 0, none⟩ (.int .i64 (L - 1))).heap[w.heap.size]? = some (.cells #[.int .i64 k, .string t, .bool n, .slice lo0 r.length lc0, .slice ao l.length cv0, .int .i64 a, mv, sv] 28 (0, 0))) := Lib.hid ((Below.heap_setCell _ _ _ _ (by have := HLT.out; simp; omega)).trans HX1.out)
    have HK2 : Hid (Ks g w (W1.setCell ⟨g, 0, none⟩ (.int .i64 (L - 1)))) := Lib.hid (((Ks.refl g w).below (by have := HLT.out; omega) HB1.out).set 0 _)
    clear q0 q1 q2
    generalize W1.setCell ⟨g, 0, none⟩ (.int .i64 (L - 1)) = W2 at *
    obtain ⟨q0, q1, q2⟩ := HOV2.out.facts
    unfold ovF at q2
    obtain ⟨c0, c1, c2, c3, c4, c5, c6, c7⟩ := rowS8 HX2.out
    rcases (by omega : L - 1 < 0 ∨ 0 ≤ L - 1) with hn | hn
    · have hd : decide (L - 1 < 0) = true := by simpa using hn
      have HNG : Hid (L = 0) := Lib.hid (by omega)
      clear hn
      go_wp2_with fail
      go_ret
      exact OvPost.yes HK2.out HOV2.out (by have := HNG.out; omega) (.inl (by have := HNG.out; have := HSN.out; omega))
    have hd : decide (L - 1 < 0) = false := by simp; omega
    have HNG := Lib.hid hn
    clear hn
    rcases (by omega : 64 < r.length ∨ r.length ≤ 64) with hr | hr
    · have hd2 : decide ((64 : Int) < ((r.length : Nat) : Int)) = true := by simp; omega
      have HR := Lib.hid hr
      clear hr
      go_wp2_with fail
      go_ret
      exact OvPost.yes HK2.out HOV2.out (by have := HNG.out; omega) (.inr (lmsB_many HR.out))
    have hd2 : decide ((64 : Int) < ((r.length : Nat) : Int)) = false := by simp; omega
    have HR := Lib.hid hr
    clear hr
    have hkp : Keeps (fun b => b ≠ g) w W2 := Keeps.of_ks HK2.out (by simp)
    have HCON := Lib.hid (ovcon_any g l (fun j h => HIH.out (l[j]'h) (HSZ.out j h)) _ vs W2 (L - 1) HNG.out (by omega) (HRW.out.move HAP.out hkp) HAP.out (HIN.out.move hkp) HOV2.out)
    unfold ovF at HCON
    clear hkp
    go_wp2_with fail
    refine HCON.out.mono ?_
    rintro e w3 ⟨b, L2, rfl, hk3, ho3, hL1, hL2, hno, hyes⟩
    have HK3 := Lib.hid (HK2.out.trans hk3)
    have HO3 := Lib.hid ho3
    have HRR := Lib.hid (And.intro hL1 hL2)
    clear c0 c1 c2 c3 c4 c5 c6 c7 q0 q1 q2 hk3 ho3 hL1 hL2
    cases b with
    | true =>
      have HY := Lib.hid (hyes rfl)
      clear hno hyes
      go_wp2_with fail
      go_ret
      refine OvPost.yes HK3.out HO3.out HRR.out ?_
      rcases HY.out with h | ⟨j, hj, h⟩
      · left; have := HSN.out; omega
      · exact .inr (lmsB_not hj h)
    | false =>
      have HN := Lib.hid (hno rfl)
      clear hno hyes
      go_wp2_with fail
      go_ret
      exact OvPost.no HK3.out HO3.out HRR.out.2 ⟨by have h1 := HN.out.1; have h2 := HSN.out; omega, HN.out.2.1, lmsB_yes HR.out HN.out.2.2⟩

set_option maxRecDepth 100000 in
set_option maxHeartbeats 4000000 in
/-- stx.few. -/
theorem few_any (D : Sx) (us : List Value) (w : World) (h1 : SLay w D us) :
    Calls Tryd.prog 33 #[.agg us.toArray] w fun e w' => e = .returned (.bool (fewB D)) ∧ Below w.heap.size w w' := by
  have HLY := Lib.hid h1
  obtain ⟨u0, u1, u2, u3, u4, u5, u6, u7, rfl⟩ := sx_cells8 h1.layP
  clear h1
  show Calls Tryd.prog 33 #[.agg #[u0, u1, u2, u3, u4, u5, u6, u7]] w _
  obtain ⟨k, t, n, r, l, a, m, s⟩ := D
  obtain ⟨lv, av, mv, sv, vs, he, _, _, ⟨_, _, lo, lc, rfl, _⟩, ⟨_, _, ao, ac, rfl, _⟩, ⟨_, _, mo, mc, rfl, _⟩, ⟨_, _, so, sc, rfl, _⟩, _⟩ := HLY.out.open'
  simp only [List.cons.injEq, and_true, Sx.k, Sx.t, Sx.n, Sx.r, Sx.l, Sx.a, Sx.m, Sx.s] at he
  obtain ⟨rfl, rfl, rfl, rfl, rfl, rfl, rfl, rfl⟩ := he
  obtain ⟨W1, hW1⟩ : ∃ W1, W1 = ((w.alloc (.cells #[.int .i64 k, .string t, .bool n, .slice lo r.length lc, .slice ao l.length ac, .int .i64 a, .slice mo m.length mc, .slice so s.length sc] 28)).alloc (.cells #[.int .i64 8192] 3)).alloc (.cells #[ovF (w.heap.size + 1)] 49) := ⟨_, rfl⟩
  have hb1 : Below w.heap.size w W1 := by rw [hW1]; exact below3 w _ _ _
  have hx1 : W1.heap[w.heap.size]? = some (.cells #[.int .i64 k, .string t, .bool n, .slice lo r.length lc, .slice ao l.length ac, .int .i64 a, .slice mo m.length mc, .slice so s.length sc] 28 (0, 0)) := by rw [hW1, Below.heap_alloc _ _ _ (by simp; omega), Below.heap_alloc _ _ _ (by simp)]; exact heap_alloc_new w _
  have ho1 : OvB W1 (w.heap.size + 1) 8192 := by
    rw [hW1]
    refine ⟨?_, ?_⟩
    · rw [Below.heap_alloc _ _ _ (by simp)]
      have := heap_alloc_new (w.alloc (.cells #[.int .i64 k, .string t, .bool n, .slice lo r.length lc, .slice ao l.length ac, .int .i64 a, .slice mo m.length mc, .slice so s.length sc] 28)) (.cells #[.int .i64 8192] 3)
      rwa [Go.World.size_alloc] at this
    · have := heap_alloc_new ((w.alloc (.cells #[.int .i64 k, .string t, .bool n, .slice lo r.length lc, .slice ao l.length ac, .int .i64 a, .slice mo m.length mc, .slice so s.length sc] 28)).alloc (.cells #[.int .i64 8192] 3)) (.cells #[ovF (w.heap.size + 1)] 49)
      simpa using this
  have HB1 := Lib.hid hb1
  have HX1 := Lib.hid hx1
  have HO1 := Lib.hid ho1
  clear hb1 hx1 ho1
  go_enter Tryd.func33, Tryd.ntmps33
  go_upto_region 4 with fail
  unfold ovF at hW1
  rw [← hW1]
  clear hW1
  obtain ⟨c0, c1, c2, c3, c4, c5, c6, c7⟩ := rowS8 HX1.out
  obtain ⟨q0, q1, q2⟩ := HO1.out.facts
  unfold ovF at q2
  have HCALL := Lib.hid (over_any (w.heap.size + 1) _ _ (Nat.le_refl _) _ W1 8192 (by omega) (by omega) ((HLY.out.layP.move (Keeps.of_below HB1.out)).mono (Q := fun b => b ≠ w.heap.size + 1) fun b _ hb => by omega) HO1.out)
  go_wp2_with fail
  refine HCALL.out.mono ?_
  rintro e w3 ⟨b, L2, rfl, hk3, ho3, hL1, hL2, hno, hyes⟩
  have HB3 := Lib.hid (HB1.out.trans (hk3.bel.mono (by omega)))
  have HV : Hid (fewB (.mk k t n r l a m s) = !b) := Lib.hid (by
    unfold fewB
    cases b with
    | true =>
      rcases hyes rfl with h | h
      · rw [decide_eq_false (by omega)]; rfl
      · rw [h, Bool.and_false]; rfl
    | false =>
      obtain ⟨h1, h2, h3⟩ := hno rfl
      rw [decide_eq_true (by omega), h3]; rfl)
  clear c0 c1 c2 c3 c4 c5 c6 c7 q0 q1 q2 hk3 ho3 hL1 hL2 hno hyes
  go_wp2_with fail
  go_ret
  exact ⟨ret_bl (by rw [HV.out]), HB3.out⟩
end Go.Proofs.YtbfcbicbeagjkaaDoor
