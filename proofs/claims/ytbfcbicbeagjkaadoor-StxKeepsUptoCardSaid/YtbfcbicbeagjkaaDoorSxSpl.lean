/- law10's spoil: all that is in a piece, whose rows are its own, is written over; nothing else is. -/
import Derived.Test.YtbfcbicbeagjkaaDoorSxPsh
namespace Go.Proofs.YtbfcbicbeagjkaaDoor
open Go.RowKit

/-- So many cells of a row can be written. -/
def ShR (w : World) (ty : TypeId) (v : Value) (n : Nat) : Prop := n ≤ maxLen ∧ ((∃ c, v = .slice none n c ∧ n = 0) ∨ ∃ (g cap : Nat) (cur : Array Value), v = .slice (some ⟨g, 0, none⟩) n cap ∧ w.heap[g]? = some (.cells cur ty (0, 0)) ∧ n ≤ cur.size)
theorem ShR.of_own {w : World} {B n : Nat} {ty : TypeId} {v : Value} {xs : List Value} (h : w.ownsRow B ty 1 v n xs) : ShR w ty v n := by
  refine ⟨?_, ?_⟩
  · exact (RowV.of_own h).2.1
  · rcases h.2 with ⟨hv, hn⟩ | ⟨g, cap, cur, hv, _, hb, hn, _, hz, _⟩
    · exact .inl ⟨_, by rw [hv, hn], hn⟩
    · exact .inr ⟨g, cap, cur, hv, hb, by omega⟩
theorem ShR.set {w : World} {ty : TypeId} {v : Value} {n : Nat} (h : ShR w ty v n) (q i : Nat) (u : Value) : ShR (w.setCell ⟨q, i, none⟩ u) ty v n := by
  obtain ⟨h0, ⟨c, hv, hn⟩ | ⟨g, cap, cur, hv, hb, hn⟩⟩ := h
  · exact ⟨h0, .inl ⟨c, hv, hn⟩⟩
  · refine ⟨h0, .inr ?_⟩
    by_cases e : g = q
    · subst e
      exact ⟨g, cap, _, hv, rowSet hb i u, by simpa using hn⟩
    · exact ⟨g, cap, cur, hv, (((Keeps.refl (fun b => b ≠ q) w).set (p := ⟨q, i, none⟩) (fun h => h rfl) u).2 g (Array.getElem?_eq_some_iff.1 hb).1 e).trans hb, hn⟩
theorem ShR.keep {w w' : World} {ty : TypeId} {v : Value} {n : Nat} (h : ShR w ty v n) {P : Nat → Prop} (hk : Keeps P w w') (hp : ∀ b, v.ownBlock = some b → P b) : ShR w' ty v n := by
  obtain ⟨h0, ⟨c, hv, hn⟩ | ⟨g, cap, cur, hv, hb, hn⟩⟩ := h
  · exact ⟨h0, .inl ⟨c, hv, hn⟩⟩
  · exact ⟨h0, .inr ⟨g, cap, cur, hv, (hk.2 g (Array.getElem?_eq_some_iff.1 hb).1 (hp g (by rw [hv]; rfl))).trans hb, hn⟩⟩
/-- What has been written lies in blocks of S; the three small rows can be written. -/
structure SpI (w : World) (S : Nat → Prop) (lv mv sv : Value) (nr nm ns : Nat) (wr : World) : Prop where
  keep : Keeps (fun c => ¬ S c) w wr
  bel : ∀ B, (∀ c, S c → B ≤ c) → B ≤ w.heap.size → Below B w wr
  lr : ShR wr 55 lv nr
  mr : ShR wr 3 mv nm
  sr : ShR wr 3 sv ns
theorem SpI.set {w : World} {S : Nat → Prop} {lv mv sv : Value} {nr nm ns : Nat} {wr : World} (h : SpI w S lv mv sv nr nm ns wr) {q : Nat} (hq : S q) (i : Nat) (u : Value) : SpI w S lv mv sv nr nm ns (wr.setCell ⟨q, i, none⟩ u) :=
  ⟨h.keep.set (p := ⟨q, i, none⟩) (fun hn => hn hq) u, fun B h1 h2 => (h.bel B h1 h2).setCell (p := ⟨q, i, none⟩) (h1 q hq) u, h.lr.set q i u, h.mr.set q i u, h.sr.set q i u⟩
theorem SpI.step {w : World} {S : Nat → Prop} {lv mv sv : Value} {nr nm ns : Nat} {wr w' : World} (h : SpI w S lv mv sv nr nm ns wr) {T : Nat → Prop} (hT : ∀ c, T c → S c) (hk : Keeps (fun c => ¬ T c) wr w') (hb : ∀ B, (∀ c, T c → B ≤ c) → B ≤ wr.heap.size → Below B wr w') (hl : ∀ b, lv.ownBlock = some b → ¬ T b) (hm : ∀ b, mv.ownBlock = some b → ¬ T b) (hs : ∀ b, sv.ownBlock = some b → ¬ T b) : SpI w S lv mv sv nr nm ns w' :=
  ⟨h.keep.trans (hk.mono fun c _ hc ht => hc (hT c ht)), fun B h1 h2 => (h.bel B h1 h2).trans (hb B (fun c hc => h1 c (hT c hc)) (Nat.le_trans h2 h.keep.1)), h.lr.keep hk hl, h.mr.keep hk hm, h.sr.keep hk hs⟩
/-- What spoil leaves. -/
def SplP (S : Nat → Prop) (w : World) (e : Ending) (w' : World) : Prop := e = .returned (.tuple #[]) ∧ Keeps (fun c => ¬ S c) w w' ∧ ∀ B, (∀ c, S c → B ≤ c) → B ≤ w.heap.size → Below B w w'

set_option maxRecDepth 100000 in
set_option maxHeartbeats 8000000 in
/-- law10's spoil. -/
theorem spoil_any : ∀ (kk : Nat) (D : Sx), D.sz ≤ kk → ∀ (us : List Value) (S : Nat → Prop) (g off : Nat) (cs : Array Value) (w : World), SOwn w S D us → (∀ b, S b → b < w.heap.size) → ¬ S g → w.heap[g]? = some (.cells cs 28 (0, 0)) → off + 8 ≤ cs.size → (cs.toList.drop off).take 8 = us →
    Calls Tryd.prog 11 #[.pointer (some ⟨g, off, none⟩)] w (SplP S w) := by
  intro kk
  induction kk with
  | zero => intro D h; have := D.sz_pos; omega
  | succ kk ih =>
    intro D hsz us S g off cs w hso hSb hSg hgb hoff hcs
    have HIH := Lib.hid ih
    clear ih
    obtain ⟨k, t, n, r, l, a, dm, ds⟩ := D
    have HSZ : Hid (∀ (j : Nat) (h : j < l.length), (l[j]'h).sz ≤ kk) := Lib.hid fun j h => by
      have := Sx.sz_mem (d := .mk k t n r l a dm ds) (x := l[j]) (List.getElem_mem h)
      omega
    obtain ⟨lv, av, mv, sv, xs, Fc, rfl, ht, hlim, hr, hl, hm, hs, hrp, hmp, hsp, hlp, hsub, hdis, hin⟩ := hso.row
    obtain ⟨lo, lc, rfl⟩ := own_dslice hr
    obtain ⟨ao, ac, rfl⟩ := own_dslice hl
    obtain ⟨mo, mc, rfl⟩ := own_dslice hm
    obtain ⟨so, sc, rfl⟩ := own_dslice hs
    have HRP := Lib.hid hrp
    have HMP := Lib.hid hmp
    have HSP := Lib.hid hsp
    have HSUB := Lib.hid hsub
    have HDIS := Lib.hid hdis
    have HIN := Lib.hid hin
    have HSB := Lib.hid hSb
    have HG := Lib.hid hSg
    have HGB := Lib.hid hgb
    have HGL := Lib.hid (Array.getElem?_eq_some_iff.1 hgb).1
    have HCS := Lib.hid hcs
    have HOF := Lib.hid hoff
    have hmx : l.length ≤ 9223372036854775807 := by have := (RowV.of_own hl).2.1; unfold maxLen at this; omega
    have HMX := Lib.hid hmx
    have HI0 : Hid ((SpI w S (.slice lo r.length lc) (.slice mo dm.length mc) (.slice so ds.length sc) r.length dm.length ds.length) w) := Lib.hid ⟨Keeps.refl _ w, fun B _ _ => Below.refl _ _, ShR.of_own hr, ShR.of_own hm, ShR.of_own hs⟩
    have hbb : ∃ (b : Nat) (cur : Array Value), l ≠ [] → (ao = some ⟨b, 0, none⟩ ∧ w.heap[b]? = some (.cells cur 28 (0, 0)) ∧ l.length * 8 ≤ cur.size ∧ cur.toList.take (l.length * 8) = xs ∧ S b ∧ ∀ i, ¬ Fc i b) := by
      rcases hl.2 with ⟨hv, hn0⟩ | ⟨b, cap0, cur, hv, hge, hblk, hnc, hcm, hcz, htk⟩
      · exact ⟨0, #[], fun h => absurd (List.eq_nil_of_length_eq_zero hn0) h⟩
      · injection hv with hv1 hv2 hv3
        subst hv1
        exact ⟨b, cur, fun _ => ⟨rfl, hblk, by omega, htk, (hlp b rfl).1, (hlp b rfl).2⟩⟩
    obtain ⟨b, cur, hbb⟩ := hbb
    have HBB := Lib.hid hbb
    have HTY : Hid (l ≠ [] → ∀ v : Value, (v = .slice lo r.length lc ∨ v = .slice mo dm.length mc ∨ v = .slice so ds.length sc) → ∀ c, v.ownBlock = some c → c ≠ b) := Lib.hid fun hl0 v hv c hc => by
      have hblk := (hbb hl0).2.1
      rcases hv with rfl | rfl | rfl
      · exact own_farT hr hblk (by decide) c hc
      · exact own_farT hm hblk (by decide) c hc
      · exact own_farT hs hblk (by decide) c hc
    clear hso hSb hSg hgb hoff hcs ht hlim hr hl hm hs hrp hmp hsp hlp hsub hdis hin hsz hmx hbb
    obtain ⟨c0, c1, c2, c3, c4, c5, c6, c7⟩ := cells_of HGB.out HCS.out
    go_enter Tryd.func11, Tryd.ntmps11
    go_wp2_with fail
    clear c0 c1 c2 c3 c4 c5 c6 c7
    go_loopw [2] (fun v wr => ∃ j : Nat, v = .int .i64 (j : Nat) ∧ j ≤ l.length ∧ (SpI w S (.slice lo r.length lc) (.slice mo dm.length mc) (.slice so ds.length sc) r.length dm.length ds.length) wr ∧ Keeps (fun c => (∀ i, i < j → ¬ Fc i c) ∧ c ≠ b) w wr ∧ (l ≠ [] → ∃ cb : Array Value, wr.heap[b]? = some (.cells cb 28 (0, 0)) ∧ cb.size = cur.size ∧ ∀ p, j * 8 ≤ p → cb[p]? = cur[p]?)) (fun v _ => l.length - (intOf v).toNat)
    case atStart => exact ⟨0, rfl, Nat.zero_le _, HI0.out, Keeps.refl _ _, fun h => ⟨cur, (HBB.out h).2.1, rfl, fun _ _ => rfl⟩⟩
    case round =>
      obtain ⟨j, rfl, hj, hi, hkp, hcb⟩ := hrel
      have hmx := HMX.out
      have HI := Lib.hid hi
      have HK := Lib.hid hkp
      have HCB := Lib.hid hcb
      clear hi hkp hcb
      obtain ⟨c0, c1, c2, c3, c4, c5, c6, c7⟩ := cells_of ((HI.out.keep.2 g HGL.out HG.out).trans HGB.out) HCS.out
      by_cases hjl : j < l.length
      · have hii : ((j : Nat) : Int) < ((l.length : Nat) : Int) := by omega
        have hl0 : l ≠ [] := fun e => by rw [e] at hjl; simp at hjl
        obtain ⟨rfl, hblk0, hfit, htk, hSb, hoffb⟩ := HBB.out hl0
        obtain ⟨cb, hblk, hcz, hcur⟩ := HCB.out hl0
        have HB0 := Lib.hid (And.intro hfit (And.intro hSb hoffb))
        have HBC := Lib.hid (And.intro hblk (And.intro hcz hcur))
        have heq : (cb.toList.drop (j * 8)).take 8 = (xs.drop (j * 8)).take 8 := by
          rw [← htk, take_drop8 hjl]
          exact drop8_eq fun p h1 h2 => hcur p h1
        have hej := (HIN.out j hjl).move (HK.out.mono fun c _ hc => ⟨fun i hi h2 => HDIS.out i j c (by omega) h2 hc, fun e => hoffb j (e ▸ hc)⟩)
        have HEJ := Lib.hid (And.intro hej heq)
        clear hblk0 hfit htk hblk hcz hcur heq hej
        go_wp2_with fail
        refine (HIH.out (l[j]'hjl) (HSZ.out j hjl) _ (Fc j) b (j * 8) cb wr HEJ.out.1 (fun c hc => Nat.lt_of_lt_of_le (HSB.out c (HSUB.out j c hc)) HI.out.keep.1) (HB0.out.2.2 j) HBC.out.1 (by have h1 := HBC.out.2.1; have h2 := HB0.out.1; omega) HEJ.out.2).mono ?_
        rintro e w9 ⟨rfl, hk9, hb9⟩
        have hi9 := HI.out.step (T := Fc j) (HSUB.out j) hk9 hb9 (fun c hc => (HRP.out c hc).2 j) (fun c hc => (HMP.out c hc).2 j) (fun c hc => (HSP.out c hc).2 j)
        have hblk9 := (hk9.2 b (Array.getElem?_eq_some_iff.1 HBC.out.1).1 (HB0.out.2.2 j)).trans HBC.out.1
        have HK9 : Hid (Keeps (fun c => (∀ i, i < j + 1 → ¬ Fc i c) ∧ c ≠ b) w w9) := Lib.hid ((HK.out.mono fun c _ hc => ⟨fun i hi => hc.1 i (by omega), hc.2⟩).trans (hk9.mono fun c _ hc => hc.1 j (by omega)))
        have HI9 := Lib.hid hi9
        have HBK9 := Lib.hid hblk9
        have hg9 := (hi9.keep.2 g HGL.out HG.out).trans HGB.out
        have hsz9 : j * 8 + 1 < cb.size := by have h1 := HBC.out.2.1; have h2 := HB0.out.1; omega
        have hcq := (cell_heap hblk9 (j * 8 + 1)).trans (Array.getElem?_eq_getElem hsz9)
        have hfz := frozen_heap hblk9 (j * 8 + 1)
        clear hk9 hb9 hi9 hblk9 c0 c1 c2 c3 c4 c5 c6 c7
        obtain ⟨c0, c1, c2, c3, c4, c5, c6, c7⟩ := cells_of hg9 HCS.out
        clear hg9
        go_wp2_with fail
        go_roundw
        case measure => simp only [intOf]; omega
        case rel =>
          refine ⟨j + 1, by go_num, by omega, HI9.out.set HB0.out.2.1 _ _, HK9.out.set (p := ⟨b, j * 8 + 1, none⟩) (fun h => h.2 rfl) _, fun _ => ⟨_, rowSet HBK9.out _ _, by simpa using HBC.out.2.1, fun p hp => ?_⟩⟩
          rw [Array.getElem?_setIfInBounds_ne (by omega)]
          exact HBC.out.2.2 p (by omega)
      · obtain rfl : j = l.length := by omega
        go_wp2_with fail
        clear c0 c1 c2 c3 c4 c5 c6 c7 hjl hmx HK HCB

        go_loopw [3] (fun v wr => ∃ j : Nat, v = .int .i64 (j : Nat) ∧ j ≤ dm.length ∧ (SpI w S (.slice lo r.length lc) (.slice mo dm.length mc) (.slice so ds.length sc) r.length dm.length ds.length) wr) (fun v _ => dm.length - (intOf v).toNat)
        case atStart => exact ⟨0, rfl, Nat.zero_le _, HI.out⟩
        case round =>
          obtain ⟨j, rfl, hj, hi⟩ := hrel
          have HI := Lib.hid hi
          have hmx := hi.mr.1
          clear hi
          obtain ⟨c0, c1, c2, c3, c4, c5, c6, c7⟩ := cells_of ((HI.out.keep.2 g HGL.out HG.out).trans HGB.out) HCS.out
          by_cases hjl : j < dm.length
          · have hii : ((j : Nat) : Int) < ((dm.length : Nat) : Int) := by omega
            obtain ⟨_, ⟨c, hv, h0⟩ | ⟨q, cap, cur, hv, hblk, hcz⟩⟩ := HI.out.mr
            · omega
            · injection hv with hv1 hv2 hv3
              subst hv1
              have hS : S q := (HMP.out q rfl).1
              have hcq := (cell_heap hblk j).trans (Array.getElem?_eq_getElem (by omega))
              have hfz := frozen_heap hblk j
              unfold maxLen at hmx
              go_wp2_with fail
              go_roundw
              case measure => simp only [intOf]; omega
              case rel => exact ⟨j + 1, by go_num, by omega, HI.out.set hS j _⟩
          · obtain rfl : j = dm.length := by omega
            go_wp2_with fail
            clear c0 c1 c2 c3 c4 c5 c6 c7 hjl hmx

            go_loopw [4] (fun v wr => ∃ j : Nat, v = .int .i64 (j : Nat) ∧ j ≤ ds.length ∧ (SpI w S (.slice lo r.length lc) (.slice mo dm.length mc) (.slice so ds.length sc) r.length dm.length ds.length) wr) (fun v _ => ds.length - (intOf v).toNat)
            case atStart => exact ⟨0, rfl, Nat.zero_le _, HI.out⟩
            case round =>
              obtain ⟨j, rfl, hj, hi⟩ := hrel
              have HI := Lib.hid hi
              have hmx := hi.sr.1
              clear hi
              obtain ⟨c0, c1, c2, c3, c4, c5, c6, c7⟩ := cells_of ((HI.out.keep.2 g HGL.out HG.out).trans HGB.out) HCS.out
              by_cases hjl : j < ds.length
              · have hii : ((j : Nat) : Int) < ((ds.length : Nat) : Int) := by omega
                obtain ⟨_, ⟨c, hv, h0⟩ | ⟨q, cap, cur, hv, hblk, hcz⟩⟩ := HI.out.sr
                · omega
                · injection hv with hv1 hv2 hv3
                  subst hv1
                  have hS : S q := (HSP.out q rfl).1
                  have hcq := (cell_heap hblk j).trans (Array.getElem?_eq_getElem (by omega))
                  have hfz := frozen_heap hblk j
                  unfold maxLen at hmx
                  go_wp2_with fail
                  go_roundw
                  case measure => simp only [intOf]; omega
                  case rel => exact ⟨j + 1, by go_num, by omega, HI.out.set hS j _⟩
              · obtain rfl : j = ds.length := by omega
                go_wp2_with fail
                clear c0 c1 c2 c3 c4 c5 c6 c7 hjl hmx

                go_loopw [5] (fun v wr => ∃ j : Nat, v = .int .i64 (j : Nat) ∧ j ≤ r.length ∧ (SpI w S (.slice lo r.length lc) (.slice mo dm.length mc) (.slice so ds.length sc) r.length dm.length ds.length) wr) (fun v _ => r.length - (intOf v).toNat)
                case atStart => exact ⟨0, rfl, Nat.zero_le _, HI.out⟩
                case round =>
                  obtain ⟨j, rfl, hj, hi⟩ := hrel
                  have HI := Lib.hid hi
                  have hmx := hi.lr.1
                  clear hi
                  obtain ⟨c0, c1, c2, c3, c4, c5, c6, c7⟩ := cells_of ((HI.out.keep.2 g HGL.out HG.out).trans HGB.out) HCS.out
                  by_cases hjl : j < r.length
                  · have hii : ((j : Nat) : Int) < ((r.length : Nat) : Int) := by omega
                    obtain ⟨_, ⟨c, hv, h0⟩ | ⟨q, cap, cur, hv, hblk, hcz⟩⟩ := HI.out.lr
                    · omega
                    · injection hv with hv1 hv2 hv3
                      subst hv1
                      have hS : S q := (HRP.out q rfl).1
                      have hcq := (cell_heap hblk j).trans (Array.getElem?_eq_getElem (by omega))
                      have hfz := frozen_heap hblk j
                      unfold maxLen at hmx
                      go_wp2_with fail
                      go_roundw
                      case measure => simp only [intOf]; omega
                      case rel => exact ⟨j + 1, by go_num, by omega, HI.out.set hS j _⟩
                  · obtain rfl : j = r.length := by omega
                    go_wp2_with fail
                    clear c0 c1 c2 c3 c4 c5 c6 c7 hjl hmx
                    go_end0
                    exact ⟨rfl, HI.out.keep, HI.out.bel⟩

end Go.Proofs.YtbfcbicbeagjkaaDoor
