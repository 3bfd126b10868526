/- Identifiers that are built: which they are. No walk here. | ref02.Others, ref09.bare: is an Other in a datum; the document's datum of a piece. -/
import Derived.Test.YtbfcbicbeagjkaaGreatDoorSxJn
import Derived.Test.YtbfcbicbeagjkaaGreatDoorTkAns
import Derived.Test.YtbfcbicbeagjkaaGreatDoorSxSnd
namespace Go.Proofs.YtbfcbicbeagjkaaGreatDoor
open Go.RowKit

theorem wjA_nilL {m s : List Int} (h : sndW m s = true) : wjA [] [] m s = (m, s, 0) := by
  rw [joinA_ok sndW_nil h]
  have e : endB [] [] = false := by decide
  rw [e, Bool.false_and]
  have e2 : marryA false [] [] m s = (m, s) := by unfold marryA cutL cutF; simp
  rw [e2]
  refine closeA_ok ?_ (sndW_snd h)
  unfold sndW at h
  rw [Bool.and_eq_true] at h
  simpa using h.1
/-- A text of one letter. -/
theorem symbA_let {c : Nat} (h : 97 ≤ c ∧ c ≤ 122) : symbA [c] = true := by
  have hlow : encL [c] = [c] := by
    have h1 : encN c = [c] := by unfold encN; rw [if_pos (by omega)]
    show encN c ++ encL [] = _
    rw [h1]; rfl
  have hch : chars [c] 0 = ([c], none) := by
    have := chars_enc [c] fun x hx => by rw [List.mem_singleton] at hx; unfold scN; omega
    rwa [hlow] at this
  have hy : symA [c] = true := by
    refine symA_yes (by simp) (by simp; omega) (by simp) (by simp [limb]; omega) ?_ (by rw [hch]) ?_
    · unfold numeA digN sgnN
      simp [limb]
      omega
    · rw [hch]
      have : ¬ (enN c = true) := by unfold enN enB; simp; omega
      simpa using this
  unfold symbA
  rw [atmA_symb (by intro i; match i with | 0 => simp [limb]; omega | i + 1 => simp [limb]) hy]
  rfl
theorem idB_leaf {t : ByteArray} {c : Nat} (ht : byt t = [c]) (hc : 97 ≤ c ∧ c ≤ 122) {a : Int} {m s : List Int} (hw : sndW m s = true) : idB (.mk 4 t false [] [] a m s) = true := by
  have hs : sndD (dtm (.mk 4 t false [] [] a m s)) = true := by
    rw [dtm_mk, ht]
    unfold sndD
    rw [okD_leaf (by omega) (by omega), wrtA_sym, symbA_let hc]
    have : (Dm.mk 4 [c] false [] (List.map dtm []) a).sz = 1 := by rw [Dm.sz_eq]; rfl
    rw [this]
    rfl
  have ho : othB (dtm (.mk 4 t false [] [] a m s)) = false := by
    rw [dtm_mk]
    exact othB_no (by decide) fun j h => by simp at h
  have hj : jnsB [] [] (.mk 4 t false [] [] a m s) = true := by
    rw [jnsB_mk, innA_eq sndW_nil, wjA_nilL hw]
    rfl
  unfold idB sndX
  rw [hs, ho, hj]
  rfl
def aB : ByteArray := ⟨#[97]⟩
theorem aB_byt : byt aB = [97] := by decide
end Go.Proofs.YtbfcbicbeagjkaaGreatDoor
namespace Go.Proofs.YtbfcbicbeagjkaaGreatDoor
open Go.RowKit

set_option maxRecDepth 100000 in
set_option maxHeartbeats 4000000 in
theorem others_any : ∀ (m : Nat) (D : Dm), D.sz ≤ m → ∀ (us : List Value) (w : World), Lay w D us → Calls Tryz.prog 18 #[.agg us.toArray] w fun e w' => e = .returned (.bool (othB D)) ∧ Below w.heap.size w w' := by
  intro m
  induction m with
  | zero => intro D h; have := sz_pos D; omega
  | succ m ih =>
    intro D hsz us w h1
    have HIH := Lib.hid ih
    clear ih
    obtain ⟨k, t, n, r, l, a⟩ := D
    have HSZ : Hid (∀ (j : Nat) (h : j < l.length), (l[j]'h).sz ≤ m) := Lib.hid fun j h => by
      have := Dm.sz_mem (d := .mk k t n r l a) (x := l[j]) (List.getElem_mem h)
      omega
    obtain ⟨lv, av, xs, rfl, _, _, _, hr, hrow1, hin1⟩ := h1.open'
    simp only [Dm.k, Dm.t, Dm.n, Dm.r, Dm.l, Dm.a] at hr hrow1 hin1 ⊢
    have HRW := Lib.hid hrow1
    have HIN := Lib.hid hin1
    have hmx : l.length ≤ 9223372036854775807 := by have := hrow1.2.1; unfold maxLen at this; omega
    have HMX := Lib.hid hmx
    obtain ⟨ao, cv0, rfl⟩ : ∃ o c, av = .slice o l.length c := by obtain ⟨_, _, o, c, h, _⟩ := hrow1; exact ⟨o, c, h⟩
    obtain ⟨lo0, lc0, rfl⟩ : ∃ o c, lv = .slice o r.length c := by obtain ⟨_, o, c, h, _⟩ := hr; exact ⟨o, c, h⟩
    clear h1 hr hrow1 hin1 hsz
    have HB1 := Lib.hid (below1 w (.cells #[.int .i64 k, .string (mkB t), .bool n, .slice lo0 r.length lc0, .slice ao l.length cv0, .int .i64 a] 27))
    have HX1 := Lib.hid (heap_alloc_new w (.cells #[.int .i64 k, .string (mkB t), .bool n, .slice lo0 r.length lc0, .slice ao l.length cv0, .int .i64 a] 27))
    show Calls Tryz.prog 18 #[.agg #[.int .i64 k, .string (mkB t), .bool n, .slice lo0 r.length lc0, .slice ao l.length cv0, .int .i64 a]] w _
    go_enter Tryz.func18, Tryz.ntmps18
    go_upto_region 1 with fail
    generalize w.alloc (.cells #[.int .i64 k, .string (mkB t), .bool n, .slice lo0 r.length lc0, .slice ao l.length cv0, .int .i64 a] 27) = w1 at *
    go_wp2_with fail
    go_loopw [3] (fun v wr => ∃ i : Nat, i ≤ l.length ∧ v = .int .i64 (i : Nat) ∧ (∀ (j : Nat) (h : j < l.length), j < i → othB (l[j]'h) = false) ∧ Below w1.heap.size w1 wr) (fun v _ => l.length - (intOf v).toNat)
    case atStart => exact ⟨0, Nat.zero_le _, rfl, fun j _ h => by omega, Below.refl _ _⟩
    case round =>
      obtain ⟨i, hi, rfl, hall, hbl⟩ := hrel
      have hmx := HMX.out
      have HALL := Lib.hid hall
      have HBL := Lib.hid hbl
      have HBR := Lib.hid (HB1.out.trans (hbl.mono HB1.out.size))
      have HXR := Lib.hid ((hbl.block _ (Array.getElem?_eq_some_iff.1 HX1.out).1).trans HX1.out)
      clear hall hbl
      obtain ⟨c0, c1, c2, c3, c4, c5⟩ := row6d HXR.out
      by_cases hin : i < l.length
      · have hii : ((i : Nat) : Int) < ((l.length : Nat) : Int) := by omega
        obtain ⟨b, off, cap', v0, v1, v2, v3, v4, v5, hav, _, _, hly, p0, p1, p2, p3, p4, p5⟩ := row_datum (HRW.out.below HBR.out) (fun j h => (HIN.out j h).keep HBR.out) hin
        simp only [Value.slice.injEq, true_and] at hav
        obtain ⟨rfl, rfl⟩ := hav
        have HY := Lib.hid hly
        clear hly
        go_wp2_with fail
        clear p0 p1 p2 p3 p4 p5 c0 c1 c2 c3 c4 c5
        refine (HIH.out (l[i]'hin) (HSZ.out i hin) [v0, v1, v2, v3, v4, v5] _ HY.out).mono ?_
        rintro e w3 ⟨rfl, hb3⟩
        have HB3 := Lib.hid (HBL.out.trans (hb3.mono HBL.out.size))
        clear hb3
        cases hs : othB (l[i]'hin) with
        | true =>
          have HV := Lib.hid (othB_yes (k := k) (t := t) (n := n) (r := r) (a := a) hin hs)
          clear hs
          go_wp2_with fail
          go_ret
          exact ⟨ret_bl HV.out.symm, HB1.out.trans (HB3.out.mono HB1.out.size)⟩
        | false =>
          have HV := Lib.hid hs
          clear hs
          go_wp2_with fail
          go_roundw
          case measure => simp only [intOf]; omega
          case rel =>
            refine ⟨i + 1, by omega, by go_num, fun j h hj => ?_, HB3.out⟩
            rcases Nat.lt_or_eq_of_le (Nat.le_of_lt_succ hj) with h2 | h2
            · exact HALL.out j h h2
            · subst h2; exact HV.out
      · obtain rfl : i = l.length := by omega
        have HV : Hid (othB (.mk k t n r l a) = (k == 11)) := Lib.hid (by
          by_cases h11 : k = 11
          · subst h11; rw [othB_is]; rfl
          · rw [othB_no h11 fun j h => HALL.out j h h]
            exact (beq_eq_false_iff_ne.2 h11).symm)
        go_wp2_with fail
        go_ret
        exact ⟨ret_bl HV.out.symm, HBR.out⟩

theorem newsp3d {w : World} {a b c : Obj} : (((w.alloc a).alloc b).alloc c).heap[w.heap.size]? = some a ∧ (((w.alloc a).alloc b).alloc c).heap[w.heap.size + 1]? = some b ∧ (((w.alloc a).alloc b).alloc c).heap[w.heap.size + 2]? = some c := by
  refine ⟨?_, ?_, ?_⟩
  · rw [Below.heap_alloc _ _ _ (by simp; omega), Below.heap_alloc _ _ _ (by simp)]; exact heap_alloc_new w _
  · rw [Below.heap_alloc _ _ _ (by simp)]
    have := heap_alloc_new (w.alloc a) b
    simpa using this
  · have := heap_alloc_new ((w.alloc a).alloc b) c
    simpa using this
end Go.Proofs.YtbfcbicbeagjkaaGreatDoor
