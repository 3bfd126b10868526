/- Collect, its first half: renumber, last, reach, numbers. -/
import Derived.Test.YtioidaojnbenbaaStCol
import Derived.Test.YtioidaojnbenbaaStMake
namespace Go.Proofs.Ytioidaojnbenbaa
open Go.RowKit

/-- A row of ints that may be written. -/
def IRow (w : World) (b : Nat) (N : List Int) : Prop := w.heap[b]? = some (.cells (ics .i64 N).toArray 3 (0, 0))
theorem IRow.lt {w : World} {b : Nat} {N : List Int} (h : IRow w b N) : b < w.heap.size := (Array.getElem?_eq_some_iff.1 h).1
theorem IRow.cell {w : World} {b : Nat} {N : List Int} (h : IRow w b N) {j : Nat} (hj : j < N.length) : w.cell? ⟨b, j, none⟩ = some (.int .i64 (N[j]'hj)) := by
  rw [cell_heap h j]
  simp [ics, hj]
theorem IRow.frozen {w : World} {b : Nat} {N : List Int} (h : IRow w b N) (j : Nat) : w.frozen? ⟨b, j, none⟩ = false := frozen_heap h j
theorem IRow.set {w : World} {b : Nat} {N : List Int} (h : IRow w b N) (j : Nat) (x : Int) : IRow (w.setCell ⟨b, j, none⟩ (.int .i64 x)) b (N.set j x) := by
  have := rowSet h j (.int .i64 x)
  unfold IRow
  rw [this]
  simp [ics]
theorem IRow.keep {w w' : World} {b : Nat} {N : List Int} (h : IRow w b N) {P : Nat → Prop} (hk : Keeps P w w') (hp : P b) : IRow w' b N := (hk.2 b h.lt hp).trans h
theorem IRow.below {w w' : World} {b : Nat} {N : List Int} (h : IRow w b N) (hb : Below w.heap.size w w') : IRow w' b N := (hb.block b h.lt).trans h

/-- The first k ones changed. -/
def upd {α : Type} (f : α → α) (l : List α) (k : Nat) : List α := (l.take k).map f ++ l.drop k
section
variable {α : Type} {f : α → α} {l : List α}
theorem upd_zero : upd f l 0 = l := by simp [upd]
theorem upd_full : upd f l l.length = l.map f := by simp [upd]
theorem upd_len (k : Nat) : (upd f l k).length = l.length := by simp [upd]; omega
theorem upd_at {k : Nat} (hk : k < l.length) : (upd f l k)[k]'(by rw [upd_len]; exact hk) = l[k] := by
  unfold upd
  rw [List.getElem_append_right (by simp; omega)]
  simp [Nat.min_eq_left (Nat.le_of_lt hk)]
theorem upd_succ {k : Nat} (hk : k < l.length) : upd f l (k + 1) = (upd f l k).set k (f l[k]) := by
  have e := List.drop_eq_getElem_cons hk
  have e2 : (List.map f (List.take k l)).length = k := by simp; omega
  unfold upd
  rw [e, List.set_append_right _ _ (by omega), e2, Nat.sub_self, List.set_cons_zero, List.take_succ_eq_append_getElem hk, List.map_append, List.append_assoc]
  rfl
end
theorem vcs_set1 {l : List (Int × Int)} {i : Nat} (h : i < l.length) {x : Int × Int} (h1 : l[i].1 = x.1) : vcs (l.set i x) = (vcs l).set (i * 2 + 1) (.int .i64 x.2) := by
  rw [vcs_set l i h x]
  congr 1
  have := (vcs_get l i h).1
  rw [h1] at this
  apply List.ext_getElem?
  intro k
  rw [List.getElem?_set]
  split
  · rename_i e
    subst e
    rw [this]
    split
    · rfl
    · rename_i hn; exact absurd (List.getElem?_eq_some_iff.1 this).1 hn
  · rfl
/-- A value's new number. -/
def rn (N : List Int) (v : Int × Int) : Int × Int := if v.1 = 7 then (7, N.getD v.2.toNat 0) else v
/-- Just one row has changed. -/
def only (v : Value) (b : Nat) : Nat := if v.ownBlock = some b then 1 else 0
theorem only_ne {v : Value} {b : Nat} : only v b ≠ 0 ↔ v.ownBlock = some b := by unfold only; split <;> simp_all

set_option maxRecDepth 100000 in
set_option maxHeartbeats 2000000 in
theorem strenumber_any (lv : Value) (l : List (Int × Int)) (nb : Nat) (N : List Int) (nc : Nat) (w : World) (hr : w.ownsRow 0 35 2 lv l.length (vcs l)) (hN : IRow w nb N) (hne : lv.ownBlock ≠ some nb) (hin : ∀ v ∈ l, v.1 = 7 → ∃ n : Nat, v.2 = (n : Int) ∧ n < N.length) (_hl : N.length ≤ 2000000) :
    Calls Try.prog 56 #[lv, .slice (some ⟨nb, 0, none⟩) N.length nc] w fun e w' => e = .returned (.tuple #[]) ∧ w'.ownsRow 0 35 2 lv l.length (vcs (l.map (rn N))) ∧ Fr (only lv) w w' := by
  have HR := Lib.hid hr
  have HN := Lib.hid hN
  have HNE := Lib.hid hne
  have HIN := Lib.hid hin
  have hmx : l.length ≤ 9223372036854775807 := by have := (RowV.of_own hr).2.1; unfold maxLen at this; omega
  obtain ⟨ao, cap, rfl⟩ := own_dslice hr
  clear hr hN hne hin
  go_enter Try.func56, Try.ntmps56
  go_wp2_with fail
  go_loopw [8] (fun v wr => ∃ k : Nat, k ≤ l.length ∧ v = .int .i64 (k : Nat) ∧ wr.ownsRow 0 35 2 (.slice ao l.length cap) l.length (vcs (upd (rn N) l k)) ∧ Fr (only (.slice ao l.length cap)) w wr) (fun v _ => l.length - (intOf v).toNat)
  case atStart => exact ⟨0, Nat.zero_le _, rfl, by rw [upd_zero]; exact HR.out, Fr.refl _ _⟩
  case round =>
    obtain ⟨k, hk, rfl, hrow, hfr⟩ := hrel
    have HROW := Lib.hid hrow
    have HFR := Lib.hid hfr
    have HNR : Hid (IRow wr nb N) := Lib.hid (HN.out.keep hfr.keeps (Classical.byContradiction fun h => HNE.out (only_ne.1 h)))
    by_cases hlt : k < l.length
    · have hii : ((k : Nat) : Int) < ((l.length : Nat) : Int) := by omega
      have hlu : k < (upd (rn N) l k).length := by rw [upd_len]; exact hlt
      have hrv := RowV.of_own hrow
      rw [show l.length = (upd (rn N) l k).length from (upd_len k).symm] at hrv
      obtain ⟨b, off, cap', e, hb, p0, p1⟩ := vrow_at hrv hlu
      rw [upd_len] at e
      simp only [Value.slice.injEq, true_and] at e
      obtain ⟨rfl, rfl⟩ := e
      rw [upd_at hlt] at p0 p1
      obtain rfl : off = 0 := by
        rcases hrow.2 with ⟨h, _⟩ | ⟨g2, _, _, h, _⟩
        · cases h
        · simp only [Value.slice.injEq, Option.some.injEq, Addr.mk.injEq] at h
          exact h.1.2.1
      rw [Nat.zero_add] at p0 p1
      have hfz : wr.frozen? ⟨b, k * 2 + 1, none⟩ = false := by
        rcases hrow.2 with ⟨h, _⟩ | ⟨g2, _, _, h, _, h3, _⟩
        · cases h
        · simp only [Value.slice.injEq, Option.some.injEq, Addr.mk.injEq, true_and, and_true] at h
          obtain ⟨rfl, _⟩ := h
          exact frozen_heap h3 _
      have HX := Lib.hid (show (rn N) l[k] = rn N l[k] from rfl)
      have HMEM := Lib.hid (List.getElem_mem hlt)
      generalize hx : l[k] = x at *
      obtain ⟨t, n⟩ := x
      simp only at p0 p1
      have HK := Lib.hid hx
      clear hx hrow hfr hrv
      by_cases h7 : t = 7
      · subst h7
        obtain ⟨i, hi, hil⟩ := HIN.out _ HMEM.out rfl
        simp only at hi
        subst hi
        have hc := HNR.out.cell hil
        have hnl := HNR.out.lt
        have hil2 : ((i : Nat) : Int) < ((N.length : Nat) : Int) := by omega
        have HRN : Hid (rn N (7, ((i : Nat) : Int)) = (7, N[i])) := Lib.hid (by unfold rn; simp [hil])
        generalize hy : N[i] = y at *
        have HY := Lib.hid hy
        have hbn : nb ≠ b := fun e => HNE.out (by rw [e]; rfl)
        clear hy
        go_wp2_with fail
        go_roundw
        case measure => simp only [intOf]; omega
        case rel =>
          refine ⟨k + 1, by omega, by go_num, ?_, ?_⟩
          · rw [upd_succ hlt, HK.out, HRN.out, vcs_set1 (by rw [upd_len]; exact hlt) (by rw [upd_at hlt, HK.out])]
            exact (ownsRow_set HROW.out (by rw [vcs_len, upd_len]; omega) _).alloc _
          · exact (HFR.out.set (p := ⟨b, k * 2 + 1, none⟩) (.inr (by rw [only_ne]; rfl)) _).alloc _
      · have hq : (t == 7) = false := by rw [beq_eq_false_iff_ne]; exact h7
        have HRN : Hid (rn N (t, n) = (t, n)) := Lib.hid (by unfold rn; rw [if_neg h7])
        clear h7
        go_wp2_with fail
        go_roundw
        case measure => simp only [intOf]; omega
        case rel =>
          refine ⟨k + 1, by omega, by go_num, ?_, HFR.out.alloc _⟩
          rw [upd_succ hlt, HK.out, HRN.out, show (upd (rn N) l k).set k (t, n) = upd (rn N) l k by
            have h := upd_at (f := rn N) hlt
            rw [HK.out] at h
            rw [← h, List.set_getElem_self]]
          exact HROW.out.alloc _
    · obtain rfl : k = l.length := by omega
      clear hrow hfr
      go_wp2_with fail
      go_end0
      exact ⟨rfl, by rw [← upd_full]; exact HROW.out, HFR.out⟩

set_option maxRecDepth 100000 in
theorem stlast_any (b n cap : Nat) (sv : Value) (w : World) (hc : w.cell? ⟨b, n, none⟩ = some sv) (hs : ∃ o m c, sv = .slice o m c) (hn : n + 1 ≤ cap) (hx : n ≤ 2000000) :
    Calls Try.prog 67 #[.slice (some ⟨b, 0, none⟩) (n + 1) cap] w fun e w' => e = .returned (.tuple #[sv, .slice (some ⟨b, 0, none⟩) n cap]) ∧ ∃ k, w' = w.drewN k := by
  obtain ⟨o, m, c, rfl⟩ := hs
  have h1 : ((n : Nat) : Int) < ((n + 1 : Nat) : Int) := by omega
  have h2 : ((n : Nat) : Int) ≤ ((n + 1 : Nat) : Int) := by omega
  have h3 : ((n : Nat) : Int) ≤ ((cap : Nat) : Int) := by omega
  go_enter Try.func67, Try.ntmps67
  go_wp2_with fail
  go_quiet (fail)
  go_wp2_with fail
  go_ret2
  exact ⟨rfl, _, rfl⟩

/-- What waits, and where it lies: rows of values. -/
structure Stk (s : St) (rs : List (Int × Int)) (nb : Nat) (w wr : World) (v : Value) (sk : List (Value × List (Int × Int))) : Prop where
  row : wr.ownsRow w.heap.size 33 1 v sk.length (sk.map Prod.fst)
  each : ∀ p ∈ sk, RowV w p.1 p.2.length 2 (vcs p.2) ∧ InP (fun b => b ≠ nb) p.2.length p.1 ∧ p.2.all (sdV s.os.length s.ns.length) = true ∧ (∀ n : Nat, ((7 : Int), (n : Int)) ∈ p.2 → Rch s rs n)
/-- Does it wait? -/
def Wt (sk : List (Value × List (Int × Int))) (v : Int × Int) : Prop := ∃ p ∈ sk, v ∈ p.2
theorem infoVals : (Try.prog.info? 33).map (fun i => (i.zero, i.size, i.bytes)) = some (some (.slice none 0 0), 1, 24) := by kernel_rfl
theorem rowv_slice {w : World} {v : Value} {n size : Nat} {us : List Value} (h : RowV w v n size us) : ∃ o c, v = .slice o n c := by obtain ⟨_, _, o, c, e, _⟩ := h; exact ⟨o, c, e⟩
/-- All that can be come to is marked. -/
structure Reached (s : St) (rs : List (Int × Int)) (N : List Int) : Prop where
  len : N.length = s.os.length
  val : ∀ (i : Nat) (h : i < N.length), N[i] = if rchB s rs i then (i : Int) else -1
theorem Seek.reached {s : St} (hok : s.Ok) {rs : List (Int × Int)} {N : List Int} {W : (Int × Int) → Prop} (h : Seek s rs N W) (hw : ∀ v, ¬ W v) : Reached s rs N := by
  refine ⟨h.len, fun i hi => ?_⟩
  have h1 := h.done hok hw i
  have h2 := mkd_not hi
  have h3 := h.val i hi
  rw [h1] at h2
  cases hb : rchB s rs i with
  | true =>
    rw [hb] at h2
    simp only [if_true]
    rcases h3 with h3 | h3
    · have := h2.2 h3; cases this
    · exact h3
  | false => simpa using h2.1 hb

set_option maxRecDepth 100000 in
set_option maxHeartbeats 8000000 in
theorem streach_any (g : Nat) (R : Nat → Nat) (s : St) (lv : Value) (rs : List (Int × Int)) (nb nc : Nat) (w : World) (h : StW w g R s) (hr : RowV w lv rs.length 2 (vcs rs)) (hrs : rs.all (sdV s.os.length s.ns.length) = true) (_hl : rs.length ≤ 2000000)
    (hN : IRow w nb (List.replicate s.os.length (-1))) (hR : R nb = 0) (hne : InP (fun b => b ≠ nb) rs.length lv) :
    Calls Try.prog 65 #[.pointer (some ⟨g, 0, none⟩), lv, .slice (some ⟨nb, 0, none⟩) s.os.length nc] w fun e w' => e = .returned (.tuple #[]) ∧ (∃ N, IRow w' nb N ∧ Reached s rs N) ∧ Fr (fun b => if b = nb then 1 else 0) w w' := by
  obtain ⟨i0, hi, hz0, hz1, hz2⟩ := info_parts infoVals
  have HI := Lib.hid (And.intro hi (And.intro hz0 (And.intro hz1 hz2)))
  clear hi hz0 hz1 hz2
  have HS := Lib.hid h
  have HRS := Lib.hid hrs
  have HOK := Lib.hid h.ok
  have HNE := Lib.hid hne
  have hos := h.ok.len
  obtain ⟨lo, lc, rfl⟩ := rowv_slice hr
  have hown0 : (w.alloc (.cells #[.slice lo rs.length lc] 33)).ownsRow w.heap.size 33 1 (.slice (some ⟨w.heap.size, 0, none⟩) 1 1) 1 [.slice lo rs.length lc] := ⟨rfl, .inr ⟨w.heap.size, 1, #[.slice lo rs.length lc], rfl, Nat.le_refl _, heap_alloc_new w _, Nat.le_refl _, by unfold maxLen; omega, rfl, rfl⟩⟩
  have HSK : Hid (Stk s rs nb w (w.alloc (.cells #[.slice lo rs.length lc] 33)) (.slice (some ⟨w.heap.size, 0, none⟩) 1 1) [(.slice lo rs.length lc, rs)]) := Lib.hid ⟨hown0, fun p hp => by obtain rfl := List.mem_singleton.1 hp; exact ⟨hr, hne, hrs, fun n hn => .root hn⟩⟩
  have HN0 : Hid (IRow (w.alloc (.cells #[.slice lo rs.length lc] 33)) nb (List.replicate s.os.length (-1))) := Lib.hid (hN.below (below1 w _))
  have HF0 : Hid (Fr (fun b => if b = nb then 1 else 0) w (w.alloc (.cells #[.slice lo rs.length lc] 33))) := Lib.hid (Fr.of_below (below1 w _))
  have hnb := hN.lt
  clear hown0 h hr hrs hN hne
  go_enter Try.func65, Try.ntmps65
  go_wp2_with fail
  go_loopg [6] (s.os.length + 1) (fun gk v wr => ∃ sk N, Stk s rs nb w wr v sk ∧ IRow wr nb N ∧ Seek s rs N (Wt sk) ∧ Fr (fun b => if b = nb then 1 else 0) w wr ∧ unm N + sk.length ≤ gk ∧ gk ≤ s.os.length + 1)
  case atStart =>
    refine ⟨[(.slice lo rs.length lc, rs)], _, HSK.out, HN0.out, Seek.start.mono (fun n hn => .inr ⟨(.slice lo rs.length lc, rs), by simp, hn⟩), HF0.out, ?_, Nat.le_refl _⟩
    have h1 : unm (List.replicate s.os.length (-1)) ≤ (List.replicate s.os.length (-1 : Int)).length := List.countP_le_length
    simp at h1 ⊢
    omega
  case round =>
    obtain ⟨sk, N, hsk, hN, hseek, hfr, hm, hgk⟩ := hrel
    rcases List.eq_nil_or_concat sk with rfl | ⟨sk0, ⟨sv, l⟩, rfl⟩
    · have HSE := Lib.hid hseek
      have HN := Lib.hid hN
      have HFR := Lib.hid hfr
      obtain ⟨xo, xc, hx⟩ := own_dslice hsk.row
      rw [show ([] : List (Value × List (Int × Int))).length = 0 from rfl] at hx
      subst hx
      clear hsk hseek hN hfr hm
      go_wp2_with fail
      go_end0
      exact ⟨rfl, ⟨N, HN.out, HSE.out.reached HOK.out (fun v hv => by obtain ⟨p, hp, _⟩ := hv; cases hp)⟩, HFR.out⟩
    · rw [List.concat_eq_append] at *
      have hse := hsk.each (sv, l) (by simp)
      obtain ⟨hrv, hip, hsd, hrc⟩ := hse
      simp only at hrv hip hsd hrc
      have hrow := hsk.row
      rw [List.length_append, List.length_singleton, List.map_append, List.map_singleton] at hrow
      rcases hrow.2 with ⟨_, h0⟩ | ⟨b, cap, cur, hv, hbge, hbh, hcn, hcm, hcs, hct⟩
      · omega
      have hcell := hrow.cells (g := b) (by rw [hv]; rfl) sk0.length sv (by simp)
      rw [Addr.add_mid, Nat.zero_add] at hcell
      have hskn : sk0.length ≤ 2000000 := by
        rw [List.length_append, List.length_singleton] at hm
        omega
      obtain ⟨so, sc, hsv⟩ := rowv_slice hrv
      have HLAST := Lib.hid (stlast_any b sk0.length cap sv wr hcell ⟨_, _, _, hsv⟩ hcn hskn)
      have HTK := Lib.hid (ownsRow_take (hv ▸ hrow) (show sk0.length ≤ sk0.length + 1 by omega))
      have HSE := Lib.hid hseek
      have HN := Lib.hid hN
      have HFR := Lib.hid hfr
      have HEA := Lib.hid hsk.each
      have HRV := Lib.hid hrv
      have HIP := Lib.hid hip
      have HSD := Lib.hid hsd
      have HRC := Lib.hid hrc
      have HM := Lib.hid hm
      have hlx : l.length ≤ 9223372036854775807 := by have := hrv.2.1; unfold maxLen at this; omega
      subst hsv
      subst hv
      clear hsk hseek hN hfr hrow hcell hrv hip hsd hrc hm hbh hcn hcs hct hcm hbge
      go_wp2_with fail
      refine HLAST.out.mono ?_
      rintro e w1 ⟨rfl, nd, rfl⟩
      have HN1 : Hid (IRow (wr.drewN nd) nb N) := HN
      have HFR1 := Lib.hid (HFR.out.drewN nd)
      have HTK1 : Hid ((wr.drewN nd).ownsRow w.heap.size 33 1 (.slice (some ⟨b, 0, none⟩) sk0.length cap) sk0.length ((sk0.map Prod.fst ++ [Value.slice so l.length sc]).take (sk0.length * 1))) := HTK
      clear HN HFR HTK HLAST
      generalize wr.drewN nd = w2 at *
      go_wp2_with fail
      go_loopw [22, 6] (fun i v wx => ∃ (k : Nat) (sk : List (Value × List (Int × Int))) (N2 : List Int), i = .int .i64 (k : Nat) ∧ k ≤ l.length ∧ Stk s rs nb w wx v sk ∧ IRow wx nb N2 ∧ Seek s rs N2 (fun u => Wt sk u ∨ u ∈ l.drop k) ∧ Fr (fun b => if b = nb then 1 else 0) w wx ∧ unm N2 + sk.length + 1 ≤ gk) (fun i _ _ => l.length - (intOf i).toNat)
      case atStart =>
        refine ⟨0, sk0, N, rfl, Nat.zero_le _, ⟨?_, fun p hp => HEA.out p (by simp [hp])⟩, HN1.out, HSE.out.mono (fun n hn => .inr ?_), HFR1.out, by have := HM.out; rw [List.length_append, List.length_singleton] at this; omega⟩
        · have := HTK1.out
          rw [Nat.mul_one, show sk0.length = (sk0.map Prod.fst).length by simp, List.take_left] at this
          simpa using this
        · obtain ⟨p, hp, hn⟩ := hn
          rcases List.mem_append.1 hp with hp | hp
          · exact .inl ⟨p, hp, hn⟩
          · obtain rfl := List.mem_singleton.1 hp
            exact .inr hn
      case round =>
        obtain ⟨k, sk, N2, rfl, hk, hstk, hN2, hseek, hfr, hm2⟩ := hrel
        have HSTK := Lib.hid hstk
        have HN2 := Lib.hid hN2
        have HSK2 := Lib.hid hseek
        have HFR2 := Lib.hid hfr
        have HM2 := Lib.hid hm2
        have HKP : Hid (Keeps (fun b => b ≠ nb) w wr) := Lib.hid (hfr.keeps.mono fun b _ hb => if_neg hb)
        obtain ⟨xo, xc, hxe⟩ := own_dslice hstk.row
        by_cases hlt : k < l.length
        · have hii : ((k : Nat) : Int) < ((l.length : Nat) : Int) := by omega
          have HMEM := Lib.hid (List.getElem_mem hlt)
          obtain ⟨bb, off, cap', e, hb, p0, p1⟩ := vrow_at (HRV.out.move (P := fun b => b ≠ nb) HIP.out HKP.out) hlt
          simp only [Value.slice.injEq, true_and] at e
          obtain ⟨rfl, rfl⟩ := e
          have hlen := hseek.len
          have HDR := Lib.hid (List.drop_eq_getElem_cons hlt)
          subst hxe
          clear hstk hN2 hseek hfr hm2
          generalize hx : l[k] = x at *
          obtain ⟨t, n⟩ := x
          simp only at p0 p1
          clear hx
          by_cases h7 : t = 7
          · subst h7
            obtain ⟨i, e, hil⟩ := sd_in (List.all_eq_true.1 HSD.out _ HMEM.out) rfl
            simp only [Prod.mk.injEq, true_and] at e
            subst e
            have hiN : i < N2.length := by omega
            have hc := HN2.out.cell hiN
            have hfz := HN2.out.frozen i
            have hnl := HN2.out.lt
            have hil2 : ((i : Nat) : Int) < ((s.os.length : Nat) : Int) := by omega
            by_cases hy : N2[i] = -1
            · rw [hy] at hc
              have HY := Lib.hid hy
              have HMK := Lib.hid ((mkd_not hiN).2 hy)
              obtain ⟨ms, ov, nv, mv, hm0⟩ := HS.out
              have him : i < ms.length := by rw [← hm0.len]; exact hil
              have HM0 := Lib.hid hm0
              have hgnb : g ≠ nb := fun e => by have := hm0.gR; rw [e] at this; omega
              clear hy hm0
              go_wp2_with fail
              obtain ⟨W1, hW1⟩ : ∃ W1, W1 = (wr.setCell ⟨nb, i, none⟩ (.int .i64 (i : Nat))).alloc (.cells #[.int .i64 7, .int .i64 (i : Nat)] 35) := ⟨_, rfl⟩
              rw [← hW1]
              have HB1 : Hid (Keeps (fun b => b ≠ nb) w W1) := Lib.hid (by rw [hW1]; exact ((HKP.out.set (p := ⟨nb, i, none⟩) (fun h => h rfl) _).trans (Keeps.of_below (below1 _ _))))
              have HF1 : Hid (Fr (fun b => if b = nb then 1 else 0) w W1) := Lib.hid (by rw [hW1]; exact (HFR2.out.set (p := ⟨nb, i, none⟩) (.inr (by simp)) _).alloc _)
              have HIR : Hid (IRow W1 nb (N2.set i (i : Nat))) := Lib.hid (by rw [hW1]; exact (HN2.out.set i _).below (below1 _ _))
              have hbxx : W1.heap[wr.heap.size]? = some (.cells #[.int .i64 7, .int .i64 (i : Nat)] 35 (0, 0)) := by
                rw [hW1]
                have := heap_alloc_new (wr.setCell ⟨nb, i, none⟩ (.int .i64 (i : Nat))) (.cells #[.int .i64 7, .int .i64 (i : Nat)] 35)
                simpa using this
              have HRW1 : Hid (W1.ownsRow w.heap.size 33 1 (.slice xo sk.length xc) sk.length (sk.map Prod.fst)) := Lib.hid (by
                rw [hW1]
                exact (ownsRow_keep HSTK.out.row ((Keeps.refl (fun b => b ≠ nb) wr).set (p := ⟨nb, i, none⟩) (fun h => h rfl) _) fun b hb e => by have := (HSTK.out.row.lt b hb).1; omega).alloc _)
              clear hW1
              have hm1 := HM0.out.keep (HB1.out.mono fun b _ hb => (fun e => hb (by rw [e]; exact hR) : b ≠ nb))
              obtain ⟨ob, oc, hov, _, _, _, _, _, q2, _⟩ := hm1.objAt him
              obtain ⟨_, _, y2, _⟩ := hm1.boxf
              rw [hov] at y2
              obtain ⟨b0, b1, _⟩ := row2 hbxx
              obtain ⟨so2, sc2, hsv2⟩ := own_dslice (HM0.out.srow i him)
              have HSV2 := Lib.hid hsv2
              rw [hsv2] at q2
              have hil3 : ((i : Nat) : Int) < ((ms.length : Nat) : Int) := by omega
              have hi0 := HI.out.1
              have hz0 := HI.out.2.1
              have hz1 := HI.out.2.2.1
              have hz2 := HI.out.2.2.2
              have HRW2 := Lib.hid (HRW1.out.alloc (.cells #[.slice so2 (ms[i]'him).o.s.length sc2] 33))
              have HNW := Lib.hid (World.news_of_block (heap_alloc_new W1 (.cells #[.slice so2 (ms[i]'him).o.s.length sc2] 33)))
              have hskl : sk.length ≤ 2000000 := by have := HM2.out; omega
              have hwl := HB1.out.1
              clear hm1 hov hsv2 hbxx hfz hc p0 p1
              go_region_law (refine step_append_lies _ (by rfl) _ _ 114 (by rfl) w.heap.size 33 i0 _ 1 24 Try.underlying114 hi0 hz0 hz1 hz2 rfl (by decide) (.slice xo sk.length xc) sk.length (sk.map Prod.fst) (by rfl) HRW2.out ⟨W1.heap.size, 0, none⟩ 1 1 [.slice so2 (ms[i]'him).o.s.length sc2] (by rfl) (by rfl) HNW.out (by intro u hu; simp at hu; subst hu; rfl) (by decide) (by unfold maxLen; omega) (by omega) (by simp; omega) _ rfl ?_; intro g4 cap4 w4 hown4 hgrow4 hat4 hlt4)
              all_goals
                have HO4 := Lib.hid hown4
                have HG4 : Hid ((W1.alloc (.cells #[.slice so2 (ms[i]'him).o.s.length sc2] 33)).grownBy w4 (Value.slice xo sk.length xc).ownBlock) := Lib.hid ⟨hgrow4.os, hgrow4.tape, hgrow4.output, hgrow4.size, hgrow4.block⟩
                clear hown4 hgrow4 hat4 hlt4 q2 y2 b0 b1 hi0 hz0 hz1 hz2
                go_wp2_with fail
                go_roundw
                case measure => simp only [intOf]; omega
                case rel =>
                  have hbase : ∀ b, (Value.slice xo sk.length xc).ownBlock = some b → w.heap.size ≤ b := fun b hb => (HRW1.out.lt b hb).1
                  refine ⟨k + 1, sk ++ [((ms[i]'him).sv, (ms[i]'him).o.s)], N2.set i (i : Nat), by go_num, by omega, ⟨?_, fun p hp => ?_⟩, ?_, HSK2.out.mark (o := (ms[i]'him).o) hil (HRC.out _ HMEM.out) (by rw [HM0.out.eqs]; simp [him]) (fun m hm => ?_) (fun v hv => .inl ⟨((ms[i]'him).sv, (ms[i]'him).o.s), by simp, hv⟩), ?_, ?_⟩
                  · rw [List.length_append, List.map_append, List.map_singleton, HSV2.out]
                    exact HO4.out
                  · rcases List.mem_append.1 hp with hp | hp
                    · exact HSTK.out.each p hp
                    · obtain rfl := List.mem_singleton.1 hp
                      refine ⟨RowV.of_own (HM0.out.srow i him), fun b _ hb e => ?_, ?_, fun m hm => ?_⟩
                      · have := HM0.out.sR i him b hb
                        rw [e] at this
                        omega
                      · rw [List.all_eq_true]
                        exact HOK.out.snd _ (by rw [HM0.out.eqs]; exact List.mem_map_of_mem (List.getElem_mem him))
                      · exact Rch.step (o := (ms[i]'him).o) (HRC.out _ HMEM.out) (by rw [HM0.out.eqs]; simp [him]) hm
                  · exact (HIR.out.below (below1 _ _)).keep (Keeps.of_grown (P := fun b => b < w.heap.size) HG4.out fun b hb hlt => by have := hbase b hb; omega) hnb
                  · rcases hm with ⟨p, hp, hpm⟩ | hm
                    · exact .inr (.inl ⟨p, by simp [hp], hpm⟩)
                    · rw [HDR.out] at hm
                      rcases List.mem_cons.1 hm with hm | hm
                      · simp only [Prod.mk.injEq, true_and] at hm
                        exact .inl (by omega)
                      · exact .inr (.inr hm)
                  · exact (HF1.out.alloc _).grown HG4.out fun b hb => .inl (hbase b hb)
                  · have h1 := unm_set hiN HY.out
                    rw [List.length_append, List.length_singleton]
                    have := HM2.out
                    omega
            · have hq : (N2[i] == -1) = false := by rw [beq_eq_false_iff_ne]; exact hy
              have HMK : Hid (mkd N2 i = true) := Lib.hid (by
                cases hmk : mkd N2 i with
                | true => rfl
                | false => exact absurd ((mkd_not hiN).1 hmk) hy)
              generalize hyy : N2[i] = y at *
              clear hy hyy
              go_wp2_with fail
              go_roundw
              case measure => simp only [intOf]; omega
              case rel =>
                refine ⟨k + 1, sk, N2, by go_num, by omega, ⟨HSTK.out.row.alloc _, HSTK.out.each⟩, HN2.out.below (below1 wr _), HSK2.out.mono (fun m hm => ?_), HFR2.out.alloc _, HM2.out⟩
                rcases hm with hm | hm
                · exact .inr (.inl hm)
                · rw [HDR.out] at hm
                  rcases List.mem_cons.1 hm with hm | hm
                  · simp only [Prod.mk.injEq, true_and] at hm
                    obtain rfl : m = i := by omega
                    exact .inl HMK.out
                  · exact .inr (.inr hm)
          · have hq : (t == 7) = false := by rw [beq_eq_false_iff_ne]; exact h7
            have H7 := Lib.hid h7
            clear h7
            go_wp2_with fail
            go_roundw
            case measure => simp only [intOf]; omega
            case rel =>
              refine ⟨k + 1, sk, N2, by go_num, by omega, ⟨HSTK.out.row.alloc _, HSTK.out.each⟩, HN2.out.below (below1 wr _), HSK2.out.mono (fun m hm => ?_), HFR2.out.alloc _, HM2.out⟩
              rcases hm with hm | hm
              · exact .inr (.inl hm)
              · rw [HDR.out] at hm
                rcases List.mem_cons.1 hm with hm | hm
                · simp only [Prod.mk.injEq] at hm
                  exact absurd hm.1.symm H7.out
                · exact .inr (.inr hm)
        · obtain rfl : k = l.length := by omega
          subst hxe
          clear hstk hN2 hseek hfr hm2
          go_wp2_with fail
          go_roundg (gk - 1)
          case measure => have := HM2.out; omega
          case rel =>
            refine ⟨sk, N2, HSTK.out, HN2.out, HSK2.out.mono (fun m hm => ?_), HFR2.out, by have := HM2.out; omega, by omega⟩
            rcases hm with hm | hm
            · exact .inr hm
            · simp at hm
end Go.Proofs.Ytioidaojnbenbaa
