/- Leaves that may be: blank, ended, length, written | ref.bare. | written: may a leaf but an integer have that text? | read.Sound: which datums may be, and how many are counted. -/
import Derived.Test.YtbfcbicbeagjkaaDoorRdLight
import Derived.Test.YtbfcbicbeagjkaaDoorTkAtom
import Derived.Test.YtbfcbicbeagjkaaDoorApp
namespace Go.Proofs.YtbfcbicbeagjkaaDoor
open Go.RowKit

/-- An empty text, as the walk asks it. -/
theorem empty_str {t : List Nat} (h : t = []) : (mkB t).toList = [] ∧ (mkB t).toList.isEmpty = true ∧ ((mkB t).toList == []) = true := by
  subst h
  obtain ⟨h1, h2⟩ := list_nil (T := mkB []) rfl
  exact ⟨h1, h2, by rw [h1]; rfl⟩
theorem nonempty_str {t : List Nat} (h : t ≠ []) : ¬ (mkB t).toList = [] ∧ (mkB t).toList.isEmpty = false ∧ ((mkB t).toList == []) = false := by
  have hs : 0 < (mkB t).size := by rw [mkB_size]; exact List.length_pos_iff.2 h
  obtain ⟨h1, h2⟩ := toList_ne hs
  exact ⟨h1, h2, by rw [beq_eq_false_iff_ne]; exact h1⟩

set_option maxRecDepth 100000 in
set_option maxHeartbeats 1000000 in
theorem dblank_any (n : Bool) (lv : Value) (r : List Nat) (w : World) (hr : Sl .u32 w lv r) :
    Calls Tryd.prog 60 #[.agg #[.bool n, lv]] w fun e w' => e = .returned (.bool (blankA n r)) ∧ Below w.heap.size w w' := by
  obtain ⟨hm, ao, cap, rfl, hcap, h⟩ := hr
  clear h
  unfold maxLen at hm
  have hb1 := below1 w (.cells #[.bool n, .slice ao r.length cap] 24)
  have HB := Lib.hid hb1
  clear hb1
  cases n with
  | true =>
    go_enter Tryd.func60, Tryd.ntmps60
    go_wp2_with fail
    go_ret
    exact ⟨rfl, HB.out⟩
  | false =>
    by_cases h0 : r.length = 0
    · have HV : Hid (blankA false r = true) := Lib.hid (by simp [blankA, h0])
      have hd : (((r.length : Nat) : Int) == 0) = true := by rw [h0]; rfl
      clear h0
      go_enter Tryd.func60, Tryd.ntmps60
      go_wp2_with fail
      go_ret
      exact ⟨ret_bl (by rw [HV.out]), HB.out⟩
    · have HV : Hid (blankA false r = false) := Lib.hid (by simp [blankA, h0])
      have hd : (((r.length : Nat) : Int) == 0) = false := by rw [beq_eq_false_iff_ne]; omega
      clear h0
      go_enter Tryd.func60, Tryd.ntmps60
      go_wp2_with fail
      go_ret
      exact ⟨ret_bl (by rw [HV.out]), HB.out⟩

theorem endA_no {k : Int} {l : List Dm} (h : k ≠ 2) : endA k l = true := by unfold endA; rw [if_neg h]
theorem endA_short {l : List Dm} (h : l.length < 2) : endA 2 l = false := by
  unfold endA
  rw [if_pos rfl]
  cases l.getLast? with
  | none => rfl
  | some x =>
    have : decide (2 ≤ l.length) = false := by simp; omega
    simp [this]
theorem endA_long {l : List Dm} (h : 2 ≤ l.length) : endA 2 l = !decide ((l[l.length - 1]'(by omega)).k = 1 ∨ (l[l.length - 1]'(by omega)).k = 2) := by
  unfold endA
  rw [if_pos rfl]
  have e : l.getLast? = some (l[l.length - 1]'(by omega)) := by rw [List.getLast?_eq_getElem?, List.getElem?_eq_getElem (by omega)]
  rw [e]
  simp [h]
/-- The kind of the last one, where it lies. -/
theorem last_kind {w : World} {av : Value} {l : List Dm} {us : List Value} (hrow : RowV w av l.length 6 us) (hin : ∀ (i : Nat) (h : i < l.length), Lay w (l[i]'h) ((us.drop (i * 6)).take 6)) (h : 2 ≤ l.length) :
    ∃ b off cap, av = .slice (some ⟨b, off, none⟩) l.length cap ∧ l.length ≤ cap ∧ b < w.heap.size ∧ w.cell? ⟨b, off + (l.length - 1) * 6, none⟩ = some (.int .i64 (l[l.length - 1]'(by omega)).k) := by
  obtain ⟨b, off, cap, v0, v1, v2, v3, v4, v5, hav, hcap, hlt, hly, p0, _⟩ := row_datum hrow hin (i := l.length - 1) (by omega)
  obtain ⟨_, _, _, e, _⟩ := hly.open'
  simp only [List.cons.injEq] at e
  rw [e.1] at p0
  exact ⟨b, off, cap, hav, hcap, hlt, p0⟩

set_option maxRecDepth 100000 in
set_option maxHeartbeats 2000000 in
theorem ended_any (D : Dm) (us : List Value) (w : World) (h1 : Lay w D us) :
    Calls Tryd.prog 61 #[.agg us.toArray] w fun e w' => e = .returned (.bool (endA D.k D.l)) ∧ Below w.heap.size w w' := by
  obtain ⟨k, t, n, r, l, a⟩ := D
  obtain ⟨lv, av, xs, rfl, _, _, _, _, hrow1, hin1⟩ := h1.open'
  simp only [Dm.l] at hrow1 hin1
  simp only [Dm.k, Dm.t, Dm.n, Dm.l, Dm.a]
  obtain ⟨ao, cv0, rfl⟩ : ∃ o c, av = .slice o l.length c := by obtain ⟨_, _, o, c, h, _⟩ := hrow1; exact ⟨o, c, h⟩
  have hb1 := below1 w (.cells #[.int .i64 k, .string (mkB t), .bool n, lv, .slice ao l.length cv0, .int .i64 a] 40)
  have hmx : l.length ≤ 9223372036854775807 := by have := hrow1.2.1; unfold maxLen at this; omega
  have HB := Lib.hid hb1
  show Calls Tryd.prog 61 #[.agg #[.int .i64 k, .string (mkB t), .bool n, lv, .slice ao l.length cv0, .int .i64 a]] w _
  by_cases hk : k = 2
  · subst hk
    rcases Nat.lt_or_ge l.length 2 with hl | hl
    · have HV := Lib.hid (endA_short hl)
      have hd : decide ((2 : Int) ≤ ((l.length : Nat) : Int)) = false := by simp; omega
      clear h1 hrow1 hin1 hb1 hl
      go_enter Tryd.func61, Tryd.ntmps61
      go_wp2_with fail
      go_ret
      exact ⟨ret_bl (by rw [HV.out]), HB.out⟩
    · have HV := Lib.hid (endA_long hl)
      obtain ⟨b, off, cap, hav, hcap, hlt, p0⟩ := last_kind (hrow1.below hb1) (fun j h => (hin1 j h).keep hb1) hl
      simp only [Value.slice.injEq, true_and] at hav
      obtain ⟨rfl, rfl⟩ := hav
      have hd : decide ((2 : Int) ≤ ((l.length : Nat) : Int)) = true := by simp; omega
      clear h1 hrow1 hin1 hb1
      by_cases e1 : (l[l.length - 1]'(by omega)).k = 1
      · have HE := Lib.hid e1
        rw [e1] at p0
        clear e1
        go_enter Tryd.func61, Tryd.ntmps61
        go_wp2_with fail
        go_ret
        exact ⟨ret_bl (by rw [HV.out, HE.out]; rfl), HB.out⟩
      · by_cases e2 : (l[l.length - 1]'(by omega)).k = 2
        · have HE := Lib.hid e2
          rw [e2] at p0
          clear e1 e2
          go_enter Tryd.func61, Tryd.ntmps61
          go_wp2_with fail
          go_ret
          exact ⟨ret_bl (by rw [HV.out, HE.out]; rfl), HB.out⟩
        · have HE : Hid (decide ((l[l.length - 1]'(by omega)).k = 1 ∨ (l[l.length - 1]'(by omega)).k = 2) = false) := Lib.hid (by simp [e1, e2])
          have d1 : ((l[l.length - 1]'(by omega)).k != 1) = true := by rw [bne_iff_ne]; exact e1
          have d2 : ((l[l.length - 1]'(by omega)).k != 2) = true := by rw [bne_iff_ne]; exact e2
          clear e1 e2
          generalize (l[l.length - 1]'(by omega)).k = kk at *
          go_enter Tryd.func61, Tryd.ntmps61
          go_wp2_with fail
          go_ret
          exact ⟨ret_bl (by rw [HV.out, HE.out]; simp []), HB.out⟩
  · have HV := Lib.hid (endA_no (l := l) hk)
    have hd : (k != 2) = true := by rw [bne_iff_ne]; exact hk
    clear h1 hrow1 hin1 hb1 hk
    go_enter Tryd.func61, Tryd.ntmps61
    go_wp2_with fail
    go_ret
    exact ⟨ret_bl (by rw [HV.out]), HB.out⟩

theorem lenA_dec (t : List Nat) : lenA t = if (decA t).2.2 = 0 then some (decA t).1.length else none := by
  unfold lenA
  rcases Nat.lt_or_ge 65536 t.length with h | h
  · rw [if_pos h, decA_large h]; rfl
  · rw [if_neg (by omega)]
    generalize hc : chars t 0 = p
    obtain ⟨cs, o⟩ := p
    cases o with
    | none => rw [decA_ok h hc]; rfl
    | some k => rw [decA_bad (k := k) h (by rw [hc])]; rfl

set_option maxRecDepth 100000 in
set_option maxHeartbeats 2000000 in
theorem length_any (t : List Nat) (w : World) (hby : By t) (ht : Tabs w) (hs : t.length ≤ 100000000) :
    Calls Tryd.prog 68 #[.string (mkB t)] w fun e w' => e = .returned (.tuple #[.int .i64 ((decA t).1.length : Nat), .bool (lenA t).isSome]) ∧ Below w.heap.size w w' := by
  have HT := Lib.hid ht
  have HSZ : Hid ((mkB t).size ≤ 100000000) := Lib.hid (by rw [mkB_size]; exact hs)
  have HBT : Hid (byt (mkB t) = t) := Lib.hid (byt_mk hby)
  have HL := Lib.hid (lenA_dec t)
  clear ht hs hby
  go_enter Tryd.func68, Tryd.ntmps68
  have hconv := run_bytes_of_string (P := Tryd.prog) w 9 80 5 (mkB t) Tryd.underlying9 Tryd.underlying80 Tryd.underlying5
  have hcap := grownCap_ge w (mkB t).size 0 5
  go_wp2_with fail
  generalize hG : grownCap w (mkB t).size 0 5 = cap at *
  have hsl := row_slS (w := w) (e := 5) (W := (w.alloc (Obj.cells (bytesRow (mkB t) cap) 5 ((bytesRow (mkB t) cap).size, (bytesRow (mkB t) cap).size + 1))).drew) (heap_alloc_new w _) hcap (by have := HSZ.out; omega)
  have hbq : Below w.heap.size w ((w.alloc (Obj.cells (bytesRow (mkB t) cap) 5 ((bytesRow (mkB t) cap).size, (bytesRow (mkB t) cap).size + 1))).drew) := (below1 w _).drew
  refine (decode_any _ (byt (mkB t)) _ hsl (byt_by _) (HT.out.below hbq (Nat.le_refl _))).mono ?_
  rintro e w4 ⟨v, rfl, hv, hb⟩
  rw [HBT.out] at hv
  rw [HBT.out]
  have hb4 : Below w.heap.size w w4 := hbq.trans (hb.mono (by simp))
  obtain ⟨_, ao, cv, rfl, _, _⟩ := hv
  have HB4 := Lib.hid hb4
  clear hsl hbq hb hconv hG hcap hb4
  generalize hd : (decA t).2.2 = e0 at *
  by_cases he : e0 = 0
  · subst he
    have HL2 : Hid ((lenA t).isSome = true) := Lib.hid (by rw [HL.out]; simp)
    go_wp2_with fail
    go_ret2
    exact ⟨by rw [HL2.out]; rfl, HB4.out⟩
  · have hd2 : (((e0 : Nat) : Int) == 0) = false := by simp; omega
    have HL2 : Hid ((lenA t).isSome = false) := Lib.hid (by rw [HL.out, if_neg he]; rfl)
    clear he
    go_wp2_with fail
    go_ret2
    exact ⟨by rw [HL2.out]; rfl, HB4.out⟩
end Go.Proofs.YtbfcbicbeagjkaaDoor
namespace Go.Proofs.YtbfcbicbeagjkaaDoor
open Go.RowKit

theorem wrtA_sym (t : List Nat) : wrtA 4 t = symbA t := by unfold wrtA; rw [if_pos rfl]
theorem wrtA_str (t : List Nat) : wrtA 5 t = (match lenA t with | some n => decide (n ≤ 4096) | none => false) := by unfold wrtA; rw [if_neg (by omega), if_pos rfl]; cases lenA t <;> rfl
theorem wrtA_chr (t : List Nat) : wrtA 6 t = (match lenA t with | some n => decide (n = 1) | none => false) := by unfold wrtA; rw [if_neg (by omega), if_neg (by omega), if_pos rfl]; cases lenA t <;> rfl
theorem wrtA_bare {k : Int} (t : List Nat) (h : k = 8 ∨ k = 9 ∨ k = 10) : wrtA k t = decide (t = []) := by unfold wrtA; rw [if_neg (by omega), if_neg (by omega), if_neg (by omega), if_pos h]
theorem wrtA_other {k : Int} (t : List Nat) (h4 : k ≠ 4) (h5 : k ≠ 5) (h6 : k ≠ 6) (h : ¬ (k = 8 ∨ k = 9 ∨ k = 10)) : wrtA k t = decide (k = 11) := by unfold wrtA; rw [if_neg h4, if_neg h5, if_neg h6, if_neg h]

set_option maxRecDepth 100000 in
set_option maxHeartbeats 4000000 in
theorem written_any (k : Int) (t : List Nat) (w : World) (hby : By t) (ht : Tabs w) (hs : t.length ≤ 100000000) :
    Calls Tryd.prog 64 #[.int .i64 k, .string (mkB t)] w fun e w' => e = .returned (.bool (wrtA k t)) ∧ Below w.heap.size w w' := by
  have HBY := Lib.hid hby
  have HT := Lib.hid ht
  have HSZ := Lib.hid hs
  clear hby ht hs
  by_cases h4 : k = 4
  · subst h4
    have HV := Lib.hid (wrtA_sym t)
    have HBT : Hid (byt (mkB t) = t) := Lib.hid (byt_mk HBY.out)
    go_enter Tryd.func64, Tryd.ntmps64
    go_wp2_with fail
    refine (tatom_any (mkB t) _ HT.out (by rw [mkB_size]; exact HSZ.out)).mono ?_
    rintro e w1 ⟨lv, rfl, hlv, hb⟩
    rw [HBT.out] at hlv
    rw [HBT.out]
    obtain ⟨_, ao, cv, rfl, _, _⟩ := hlv
    have HB := Lib.hid hb
    clear hb
    unfold dtV
    cases ha : atmA t with
    | none =>
      have HS : Hid (symbA t = false) := Lib.hid (by unfold symbA; rw [ha])
      have hb1 := below1 w1 (.cells #[.int .i64 ((zD.k : Nat) : Int), .string (mkB zD.t), .bool zD.n, .slice ao zD.r.length cv, .slice none 0 0, .int .i64 ((0 : Nat) : Int)] 40)
      have HB1 := Lib.hid (HB.out.trans (hb1.mono HB.out.size))
      clear hb1 ha
      simp only [Option.getD_none, Option.isSome_none]
      go_wp2_with fail
      go_ret
      exact ⟨ret_bl (by rw [HV.out, HS.out]), HB1.out⟩
    | some d =>
      have hb1 := below1 w1 (.cells #[.int .i64 ((d.k : Nat) : Int), .string (mkB d.t), .bool d.n, .slice ao d.r.length cv, .slice none 0 0, .int .i64 ((0 : Nat) : Int)] 40)
      have HB1 := Lib.hid (HB.out.trans (hb1.mono HB.out.size))
      have HS : Hid (symbA t = decide (d.k = 4)) := Lib.hid (by unfold symbA; rw [ha])
      have r0 := row6 (box1 w1 #[.int .i64 ((d.k : Nat) : Int), .string (mkB d.t), .bool d.n, .slice ao d.r.length cv, .slice none 0 0, .int .i64 ((0 : Nat) : Int)] 40)
      obtain ⟨a0, a1, a2, a3, a4, a5⟩ := r0
      clear hb1 ha
      simp only [Option.getD_some, Option.isSome_some]
      go_wp2_with fail
      go_ret
      refine ⟨ret_bl ?_, HB1.out⟩
      rw [HV.out, HS.out]
      rw [Bool.eq_iff_iff]
      simp
      omega
  by_cases h5 : k = 5
  · subst h5
    have HV := Lib.hid (wrtA_str t)
    go_enter Tryd.func64, Tryd.ntmps64
    go_wp2_with fail
    refine (length_any t _ HBY.out HT.out HSZ.out).mono ?_
    rintro e w1 ⟨rfl, hb⟩
    have HB := Lib.hid hb
    have HL := Lib.hid (lenA_dec t)
    clear hb
    cases hl : lenA t with
    | none =>
      have HS := Lib.hid hl
      clear hl
      simp only [Option.isSome_none]
      go_wp2_with fail
      go_ret
      exact ⟨ret_bl (by rw [HV.out, HS.out]), HB.out⟩
    | some n =>
      have hn : (decA t).1.length = n := by
        have := HL.out
        rw [hl] at this
        split at this
        · exact (Option.some.inj this).symm
        · cases this
      have HS := Lib.hid hl
      clear hl
      rw [hn]
      clear hn
      simp only [Option.isSome_some]
      go_wp2_with fail
      go_ret
      refine ⟨ret_bl ?_, HB.out⟩
      rw [HV.out, HS.out]
      rw [Bool.eq_iff_iff]
      simp
      omega
  by_cases h6 : k = 6
  · subst h6
    have HV := Lib.hid (wrtA_chr t)
    go_enter Tryd.func64, Tryd.ntmps64
    go_wp2_with fail
    refine (length_any t _ HBY.out HT.out HSZ.out).mono ?_
    rintro e w1 ⟨rfl, hb⟩
    have HB := Lib.hid hb
    have HL := Lib.hid (lenA_dec t)
    clear hb
    cases hl : lenA t with
    | none =>
      have HS := Lib.hid hl
      clear hl
      simp only [Option.isSome_none]
      go_wp2_with fail
      go_ret
      exact ⟨ret_bl (by rw [HV.out, HS.out]), HB.out⟩
    | some n =>
      have hn : (decA t).1.length = n := by
        have := HL.out
        rw [hl] at this
        split at this
        · exact (Option.some.inj this).symm
        · cases this
      have HS := Lib.hid hl
      clear hl
      rw [hn]
      clear hn
      simp only [Option.isSome_some]
      go_wp2_with fail
      go_ret
      refine ⟨ret_bl ?_, HB.out⟩
      rw [HV.out, HS.out]
      rw [Bool.eq_iff_iff]
      simp
      omega
  have d4 : (k == 4) = false := by rw [beq_eq_false_iff_ne]; exact h4
  have d5 : (k == 5) = false := by rw [beq_eq_false_iff_ne]; exact h5
  have d6 : (k == 6) = false := by rw [beq_eq_false_iff_ne]; exact h6
  by_cases h8 : k = 8 ∨ k = 9 ∨ k = 10
  · have HV := Lib.hid (wrtA_bare t h8)
    clear h4 h5 h6 d4 d5 d6
    by_cases he : t = []
    · have HE : Hid (decide (t = []) = true) := Lib.hid (by simp [he])
      obtain ⟨s1, s2, s3⟩ := empty_str he
      clear he
      rcases h8 with rfl | rfl | rfl
      all_goals
        go_enter Tryd.func64, Tryd.ntmps64
        go_wp2_with fail
        go_ret
        exact ⟨ret_bl (by rw [HV.out, HE.out]), Below.refl _ _⟩
    · have HE : Hid (decide (t = []) = false) := Lib.hid (by simp [he])
      obtain ⟨s1, s2, s3⟩ := nonempty_str he
      clear he
      rcases h8 with rfl | rfl | rfl
      all_goals
        go_enter Tryd.func64, Tryd.ntmps64
        go_wp2_with fail
        go_ret
        exact ⟨ret_bl (by rw [HV.out, HE.out]), Below.refl _ _⟩
  · have HV := Lib.hid (wrtA_other t h4 h5 h6 h8)
    have d8 : (k == 8) = false := by rw [beq_eq_false_iff_ne]; omega
    have d9 : (k == 9) = false := by rw [beq_eq_false_iff_ne]; omega
    have d10 : (k == 10) = false := by rw [beq_eq_false_iff_ne]; omega
    clear h4 h5 h6 h8
    go_enter Tryd.func64, Tryd.ntmps64
    go_wp2_with fail
    go_ret
    refine ⟨ret_bl ?_, Below.refl _ _⟩
    rw [HV.out, Bool.eq_iff_iff]
    simp
end Go.Proofs.YtbfcbicbeagjkaaDoor
namespace Go.Proofs.YtbfcbicbeagjkaaDoor
open Go.RowKit

/-- The checker's count. -/
def CkB (w : World) (g c : Nat) : Prop := w.heap[g]? = some (.cells #[.int .i64 ((c : Nat) : Int)] 75 (0, 0))
theorem CkB.lt {w : World} {g c : Nat} (h : CkB w g c) : g < w.heap.size := (Array.getElem?_eq_some_iff.1 h).1
theorem CkB.facts {w : World} {g c : Nat} (h : CkB w g c) : w.cell? ⟨g, 0, none⟩ = some (.int .i64 ((c : Nat) : Int)) ∧ w.frozen? ⟨g, 0, none⟩ = false := ⟨cell_heap h 0, frozen_heap h 0⟩
theorem CkB.step {w w' : World} {g c : Nat} (h : CkB w g c) (hb : Below w.heap.size w w') : CkB w' g c := (hb.block g h.lt).trans h
theorem CkB.set {w : World} {g c : Nat} (h : CkB w g c) (c' : Nat) {u : Int} (hu : u = (c' : Int)) : CkB (w.setCell ⟨g, 0, none⟩ (.int .i64 u)) g c' := by
  subst hu
  unfold CkB at h ⊢
  simp only [World.setCell, Array.getElem?_modify, if_true, h]
  rfl
/-- The tables, while block g changes. -/
structure Tg (W w : World) (g : Nat) : Prop where
  tabs : Tabs W
  bel : Below W.heap.size W w
  le : W.heap.size ≤ g
theorem Tg.ks {W w w' : World} {g : Nat} (h : Tg W w g) (hk : Ks g w w') : Tg W w' g := ⟨h.tabs, h.bel.trans (hk.bel.mono h.le), h.le⟩
theorem Tg.below {W w w' : World} {g : Nat} (h : Tg W w g) (hb : Below w.heap.size w w') : Tg W w' g := ⟨h.tabs, h.bel.trans (hb.mono h.bel.size), h.le⟩
theorem Tg.t {W w : World} {g : Nat} (h : Tg W w g) : Tabs w := h.tabs.below h.bel (Nat.le_refl _)
def SndPost (g c f : Nat) (D : Dm) (w : World) (e : Ending) (w' : World) : Prop :=
  ∃ b c', e = .returned (.bool b) ∧ Ks g w w' ∧ CkB w' g c' ∧ c' ≤ 8193 ∧ (b = true → okD f D = true ∧ c' = c + D.sz ∧ c' ≤ 8192) ∧ (b = false → okD f D = false ∨ 8192 < c + D.sz)
def AllPost (g c f : Nat) (l : List Dm) (w : World) (e : Ending) (w' : World) : Prop :=
  ∃ b c', e = .returned (.bool b) ∧ Ks g w w' ∧ CkB w' g c' ∧ c' ≤ 8193 ∧ (b = true → l.all (okD f) = true ∧ c' = c + szs l l.length ∧ c' ≤ 8192) ∧ (b = false → l.all (okD f) = false ∨ 8192 < c + szs l l.length)
/-- What a checker does of this datum. -/
def Chk (W : World) (g f : Nat) (D : Dm) : Prop := ∀ (us : List Value) (w : World) (c : Nat) (dp : Int), dp = 65 - (f : Int) → LayP (fun b => b ≠ g) w D us → CkB w g c → c ≤ 8192 → Tg W w g → Calls Tryd.prog 56 #[.pointer (some ⟨g, 0, none⟩), .agg us.toArray, .int .i64 dp] w (SndPost g c f D w)

theorem DmRow.lay {P : Nat → Prop} {w : World} {l : List Dm} {us : List Value} (h : DmRow P w l us) : ∀ (i : Nat) (hi : i < l.length), Lay w (l[i]'hi) ((us.drop (i * 6)).take 6) := fun i hi => (h.each i hi).lay
/-- The i-th of a row of datums, with where it is. -/
theorem row_datumP {P : Nat → Prop} {w : World} {av : Value} {l : List Dm} {us : List Value} (hrow : RowV w av l.length 6 us) (hin : DmRow P w l us) {i : Nat} (h : i < l.length) :
    ∃ b off cap v0 v1 v2 v3 v4 v5, av = .slice (some ⟨b, off, none⟩) l.length cap ∧ l.length ≤ cap ∧ b < w.heap.size ∧ LayP P w (l[i]'h) [v0, v1, v2, v3, v4, v5] ∧ w.cell? ⟨b, off + i * 6, none⟩ = some v0 ∧ w.cell? ⟨b, off + i * 6 + 1, none⟩ = some v1 ∧ w.cell? ⟨b, off + i * 6 + 2, none⟩ = some v2 ∧
      w.cell? ⟨b, off + i * 6 + 3, none⟩ = some v3 ∧ w.cell? ⟨b, off + i * 6 + 4, none⟩ = some v4 ∧ w.cell? ⟨b, off + i * 6 + 5, none⟩ = some v5 := by
  obtain ⟨h1, _, ao, cap, h3, h4, h5⟩ := hrow
  have hl := hin.each i h
  have hlen := hl.len
  rcases h5 with ⟨h5, _⟩ | ⟨b, off, h5, h6, h7⟩
  · omega
  · have hg : ∀ j, j < 6 → ((us.drop (i * 6)).take 6)[j]? = us[i * 6 + j]? := fun j hj => by rw [List.getElem?_take, if_pos hj, List.getElem?_drop]
    generalize (us.drop (i * 6)).take 6 = es at *
    match es, hlen with
    | [v0, v1, v2, v3, v4, v5], _ =>
      subst h5
      have hc : ∀ j u, j < 6 → ([v0, v1, v2, v3, v4, v5] : List Value)[j]? = some u → w.cell? ⟨b, off + i * 6 + j, none⟩ = some u := fun j u hj hu => by
        rw [Nat.add_assoc]
        exact h7 _ _ (by rw [← hg j hj]; exact hu)
      exact ⟨b, off, cap, v0, v1, v2, v3, v4, v5, h3, h4, h6, hl, hc 0 _ (by omega) rfl, hc 1 _ (by omega) rfl, hc 2 _ (by omega) rfl, hc 3 _ (by omega) rfl, hc 4 _ (by omega) rfl, hc 5 _ (by omega) rfl⟩

set_option maxRecDepth 100000 in
set_option maxHeartbeats 4000000 in
theorem call_any (W : World) (g f : Nat) (l : List Dm) (HS : ∀ (j : Nat) (h : j < l.length), Chk W g f (l[j]'h)) (av : Value) (us : List Value) (w : World) (c : Nat) (dp : Int) (hdp : dp = 65 - (f : Int)) (hrow : RowV w av l.length 6 us) (hap : InP (fun b => b ≠ g) l.length av) (hin : DmRow (fun b => b ≠ g) w l us) (hck : CkB w g c) (hc : c ≤ 8192) (ht : Tg W w g) :
    Calls Tryd.prog 62 #[.pointer (some ⟨g, 0, none⟩), av, .int .i64 dp] w (AllPost g c f l w) := by
  obtain ⟨ao, cv0, rfl⟩ : ∃ o c, av = .slice o l.length c := by obtain ⟨_, _, o, c, h, _⟩ := hrow; exact ⟨o, c, h⟩
  have HH := Lib.hid HS
  have HW := Lib.hid hrow
  have HP := Lib.hid hap
  have HI := Lib.hid hin
  have HT := Lib.hid ht
  have HC0 := Lib.hid hck
  have HDP := Lib.hid hdp
  have hmx : l.length ≤ 9223372036854775807 := by have := hrow.2.1; unfold maxLen at this; omega
  have HMX := Lib.hid hmx
  have hlt := hck.lt
  clear HS hrow hap hin ht hck hdp hmx
  go_enter Tryd.func62, Tryd.ntmps62
  go_wp2_with fail
  go_loopw [11] (fun v wr => ∃ i cc : Nat, i ≤ l.length ∧ v = .int .i64 (i : Nat) ∧ (∀ (j : Nat) (h : j < l.length), j < i → okD f (l[j]'h) = true) ∧ cc = c + szs l i ∧ cc ≤ 8192 ∧ CkB wr g cc ∧ Ks g w wr) (fun v _ => l.length - (intOf v).toNat)
  case atStart => exact ⟨0, c, Nat.zero_le _, rfl, fun j _ h => by omega, by rw [szs_zero]; rfl, hc, HC0.out, Ks.refl _ _⟩
  case round =>
    obtain ⟨i, cc, hi, rfl, hall, hcc, hc8, hck, hks⟩ := hrel
    have hmx := HMX.out
    have HALL := Lib.hid hall
    have HCC := Lib.hid hcc
    have HCK := Lib.hid hck
    have HKS := Lib.hid hks
    have HKP : Hid (Keeps (fun b => b ≠ g) w wr) := Lib.hid (Keeps.of_ks hks fun h => h rfl)
    clear hall hcc hck hks
    by_cases hin : i < l.length
    · have hii : ((i : Nat) : Int) < ((l.length : Nat) : Int) := by omega
      obtain ⟨b, off, cap, v0, v1, v2, v3, v4, v5, hav, _, _, hly, p0, p1, p2, p3, p4, p5⟩ := row_datumP (HW.out.move HP.out HKP.out) (HI.out.move HKP.out) hin
      simp only [Value.slice.injEq, true_and] at hav
      obtain ⟨rfl, rfl⟩ := hav
      have hgr : g < wr.heap.size := HCK.out.lt
      obtain ⟨lv2, av2, vs2, e1, _, _, _, hr2, hrow2, _⟩ := hly.lay.open'
      obtain ⟨_, lo2, lc2, rfl, _⟩ := hr2
      obtain ⟨_, _, ro2, rc2, rfl, _⟩ := hrow2
      simp only [List.cons.injEq, and_true] at e1
      obtain ⟨rfl, rfl, rfl, rfl, rfl, rfl⟩ := e1
      have hb1 := below1 wr (.cells #[.int .i64 (l[i]'hin).k, .string (mkB (l[i]'hin).t), .bool (l[i]'hin).n, .slice lo2 (l[i]'hin).r.length lc2, .slice ro2 (l[i]'hin).l.length rc2, .int .i64 (l[i]'hin).a] 40)
      have HB1 := Lib.hid hb1
      have HY1 := Lib.hid (hly.move (Keeps.of_below hb1))
      clear hly hb1
      go_wp2_with fail
      clear p0 p1 p2 p3 p4 p5
      refine (HH.out i hin _ _ cc _ HDP.out HY1.out (HCK.out.step HB1.out) hc8 ((HT.out.ks HKS.out).below HB1.out)).mono ?_
      rintro e w3 ⟨b3, c3, rfl, hk3, hck3, hc3, hyes, hno⟩
      have HK3 := Lib.hid (HKS.out.trans (((Ks.refl g wr).below hgr HB1.out).trans hk3))
      have HCK3 := Lib.hid hck3
      clear hk3 hck3
      cases b3 with
      | false =>
        have HNO := Lib.hid (hno rfl)
        clear hyes hno
        go_wp2_with fail
        go_ret
        refine ⟨false, c3, rfl, HK3.out, HCK3.out, hc3, fun h => (by cases h), fun _ => ?_⟩
        rcases HNO.out with h | h
        · exact .inl (all_not hin h)
        · have h1 := szs_succ hin
          have h2 := szs_mono (l := l) (Nat.succ_le_of_lt hin) (Nat.le_refl _)
          have h3 := HCC.out
          right
          simp only [Nat.succ_eq_add_one] at h2
          omega
      | true =>
        have HYES := Lib.hid (hyes rfl)
        clear hyes hno
        go_wp2_with fail
        go_roundw
        case measure => simp only [intOf]; omega
        case rel =>
          obtain ⟨h1, h2, h3⟩ := HYES.out
          refine ⟨i + 1, c3, by omega, by go_num, fun j h hj => ?_, by rw [szs_succ hin, h2, HCC.out]; omega, h3, HCK3.out, HK3.out⟩
          rcases Nat.lt_or_eq_of_le (Nat.le_of_lt_succ hj) with h4 | h4
          · exact HALL.out j h h4
          · subst h4; exact h1
    · obtain rfl : i = l.length := by omega
      have HYES := Lib.hid (all_upto (p := okD f) fun j h => HALL.out j h h)
      go_wp2_with fail
      go_ret
      exact ⟨true, cc, rfl, HKS.out, HCK.out, by omega, fun _ => ⟨HYES.out, HCC.out, hc8⟩, fun h => (by cases h)⟩

theorem SndPost.no {g c f c' : Nat} {D : Dm} {w w' : World} (hk : Ks g w w') (hck : CkB w' g c') (hc : c' ≤ 8193) (h : okD f D = false ∨ 8192 < c + D.sz) : SndPost g c f D w (.returned (.bool false)) w' := ⟨false, c', rfl, hk, hck, hc, fun h => (by cases h), fun _ => h⟩
theorem SndPost.yes {g c f c' : Nat} {D : Dm} {w w' : World} (hk : Ks g w w') (hck : CkB w' g c') (hc : c' ≤ 8192) (h : okD f D = true) (he : c' = c + D.sz) : SndPost g c f D w (.returned (.bool true)) w' := ⟨true, c', rfl, hk, hck, by omega, fun _ => ⟨h, he, hc⟩, fun h => (by cases h)⟩

set_option maxRecDepth 100000 in
set_option maxHeartbeats 8000000 in
theorem snd_any (W : World) (g : Nat) : ∀ (m : Nat) (D : Dm), D.sz ≤ m → Sm 1100000 D → ∀ f, f ≤ 64 → Chk W g f D := by
  intro m
  induction m with
  | zero => intro D h; have := Dm.sz_eq D; omega
  | succ m ih =>
    intro D hsz hsm f hf us w c dp hdp h1 hck hc ht
    have HIH := Lib.hid ih
    clear ih
    have hpos := sz_pos D
    obtain ⟨k, t, n, r, l, a⟩ := D
    have HSZ : Hid (∀ (j : Nat) (h : j < l.length), (l[j]'h).sz ≤ m) := Lib.hid fun j h => by
      have := Dm.sz_mem (d := .mk k t n r l a) (x := l[j]) (List.getElem_mem h)
      omega
    obtain ⟨hs1, _, _, hs4⟩ := hsm.open'
    have HSM := Lib.hid hs4
    obtain ⟨lv, av, xs, rfl, hby, _, hlim, hr, hrp, hrow1, hap, hin1⟩ := h1.row
    have HBY := Lib.hid hby
    have HTL : Hid (t.length ≤ 100000000) := Lib.hid (by omega)
    have HLIM := Lib.hid hlim
    have HR := Lib.hid hr
    have HRP := Lib.hid hrp
    have HRW := Lib.hid hrow1
    have HAP := Lib.hid hap
    have HIN := Lib.hid hin1
    have HLY := Lib.hid h1
    obtain ⟨ao, cv0, rfl⟩ : ∃ o c, av = .slice o l.length c := by obtain ⟨_, _, o, c, h, _⟩ := hrow1; exact ⟨o, c, h⟩
    obtain ⟨lo0, lc0, rfl⟩ : ∃ o c, lv = .slice o r.length c := by obtain ⟨_, o, c, h, _⟩ := hr; exact ⟨o, c, h⟩
    clear h1 hby hlim hr hrp hrow1 hap hin1 hsz hsm hs1 hs4
    have hgw := hck.lt
    have hne : g ≠ w.heap.size := by omega
    have hne' : w.heap.size ≠ g := by omega
    have hck1 := hck.set (c + 1) (u := (c : Int) + 1) (by omega)
    have hk1 : Ks g w (w.setCell ⟨g, 0, none⟩ (.int .i64 ((c : Int) + 1))) := (Ks.refl g w).set 0 _
    have hb1 := below1 (w.setCell ⟨g, 0, none⟩ (.int .i64 ((c : Int) + 1))) (.cells #[.int .i64 k, .string (mkB t), .bool n, .slice lo0 r.length lc0, .slice ao l.length cv0, .int .i64 a] 40)
    have hbox : ((w.setCell ⟨g, 0, none⟩ (.int .i64 ((c : Int) + 1))).alloc (.cells #[.int .i64 k, .string (mkB t), .bool n, .slice lo0 r.length lc0, .slice ao l.length cv0, .int .i64 a] 40)).heap[w.heap.size]? = some (.cells #[.int .i64 k, .string (mkB t), .bool n, .slice lo0 r.length lc0, .slice ao l.length cv0, .int .i64 a] 40 (0, 0)) := by
      have := box1 (w.setCell ⟨g, 0, none⟩ (.int .i64 ((c : Int) + 1))) #[.int .i64 k, .string (mkB t), .bool n, .slice lo0 r.length lc0, .slice ao l.length cv0, .int .i64 a] 40
      simpa using this
    have hck2 := hck1.step hb1
    have hk2 := hk1.below hgw hb1
    have hbox2 := hbox
    obtain ⟨c0, c1⟩ := hck.facts
    obtain ⟨c2, c3⟩ := hck2.facts
    obtain ⟨a0, a1, a2, a3, a4, a5⟩ := row6 hbox2
    have HK2 := Lib.hid hk2
    have HCK2 := Lib.hid hck2
    have HBX2 := Lib.hid hbox2
    have HT := Lib.hid ht
    have HPOS := Lib.hid hpos
    have HC := Lib.hid hc
    have HDP := Lib.hid hdp
    have HF := Lib.hid hf
    clear hb1 hbox hck hck1 hck2 hk1 hk2 hbox2 ht hpos
    show Calls Tryd.prog 56 #[.pointer (some ⟨g, 0, none⟩), .agg #[.int .i64 k, .string (mkB t), .bool n, .slice lo0 r.length lc0, .slice ao l.length cv0, .int .i64 a], .int .i64 dp] w _
    have hcw : (-1000 : Int) ≤ dp ∧ dp ≤ 1000 := by omega
    rcases Nat.eq_zero_or_pos f with hf0 | hf0
    · subst hf0
      have hd : decide ((64 : Int) < dp) = true := by simp; omega
      clear hdp hf hcw
      go_enter Tryd.func56, Tryd.ntmps56
      go_wp2_with fail
      go_ret
      exact SndPost.no HK2.out HCK2.out (by have := HC.out; omega) (.inl (okD_zero _))
    obtain ⟨f, rfl⟩ : ∃ f', f = f' + 1 := ⟨f - 1, by omega⟩
    have hd : decide ((64 : Int) < dp) = false := by simp; omega
    have HDP2 : Hid (dp + 1 = 65 - (f : Int)) := Lib.hid (by omega)
    clear hdp hf hf0
    rcases Nat.lt_or_ge 8192 (c + 1) with hc1 | hc1
    · have hd2 : decide ((8192 : Int) < (c : Int) + 1) = true := by simp; omega
      have HC1 := Lib.hid hc1
      clear hc1 hcw
      go_enter Tryd.func56, Tryd.ntmps56
      go_wp2_with fail
      go_ret
      exact SndPost.no HK2.out HCK2.out (by have := HC.out; omega) (.inr (by have := HPOS.out; have := HC1.out; omega))
    have hd2 : decide ((8192 : Int) < (c : Int) + 1) = false := by simp; omega
    have HC1 := Lib.hid hc1
    have HKP2 : Hid (Keeps (fun b => b ≠ g) w ((w.setCell ⟨g, 0, none⟩ (.int .i64 ((c : Int) + 1))).alloc (.cells #[.int .i64 k, .string (mkB t), .bool n, .slice lo0 r.length lc0, .slice ao l.length cv0, .int .i64 a] 40))) := Lib.hid (Keeps.of_ks HK2.out fun h => h rfl)
    have HR2 := Lib.hid (HR.out.move HRP.out HKP2.out)
    have HLY2 := Lib.hid (HLY.out.move HKP2.out)
    have HRW2 := Lib.hid (HRW.out.move HAP.out HKP2.out)
    have HIN2 := Lib.hid (HIN.out.move HKP2.out)
    have HT2 := Lib.hid (HT.out.ks HK2.out)
    have HSP : Hid (1 ≤ (Dm.mk k t n r l a).sz ∧ (Dm.mk k t n r l a).sz = 1 + szs l l.length) := Lib.hid ⟨sz_pos _, sz_node⟩
    have hgw2 : g < ((w.setCell ⟨g, 0, none⟩ (.int .i64 ((c : Int) + 1))).alloc (.cells #[.int .i64 k, .string (mkB t), .bool n, .slice lo0 r.length lc0, .slice ao l.length cv0, .int .i64 a] 40)).heap.size := by simp; omega
    have hbw2 : w.heap.size < ((w.setCell ⟨g, 0, none⟩ (.int .i64 ((c : Int) + 1))).alloc (.cells #[.int .i64 k, .string (mkB t), .bool n, .slice lo0 r.length lc0, .slice ao l.length cv0, .int .i64 a] 40)).heap.size := by simp
    have HGW2 := Lib.hid hgw2
    have HBW2 := Lib.hid hbw2
    clear hc1 hgw2 hbw2
    by_cases hk : k = 1 ∨ k = 2 ∨ k = 3
    · have HNODE := Lib.hid (okD_node (f := f) (t := t) (n := n) (r := r) (l := l) (a := a) hk)
      by_cases he : t = []
      · obtain ⟨s1, s2, s3⟩ := empty_str he
        have HE := Lib.hid he
        clear he
        rcases hk with rfl | rfl | rfl
        all_goals
          go_enter Tryd.func56, Tryd.ntmps56
          go_wp2_with fail
          refine (dblank_any n _ r _ HR2.out).mono ?_
          rintro e w3 ⟨rfl, hb3⟩
          have HB3 := Lib.hid hb3
          have HBX3 := Lib.hid ((hb3.block w.heap.size HBW2.out).trans HBX2.out)
          have HK3 := Lib.hid (HK2.out.below hgw hb3)
          have HCK3 := Lib.hid (HCK2.out.step hb3)
          clear hb3 a0 a1 a2 a3 a4 a5 c0 c1 c2 c3
          obtain ⟨a0, a1, a2, a3, a4, a5⟩ := row6 HBX3.out
          cases hbl : blankA n r with
          | false =>
            have HBL := Lib.hid hbl
            clear hbl
            go_wp2_with fail
            go_ret
            exact SndPost.no HK3.out HCK3.out (by have := HC1.out; omega) (.inl (by rw [HNODE.out, HBL.out]; simp))
          | true =>
            have HBL := Lib.hid hbl
            clear hbl
            go_wp2_with fail
            refine (ended_any (.mk _ t n r l a) [_, _, _, _, _, _] _ (HLY2.out.lay.keep HB3.out)).mono ?_
            rintro e w4 ⟨rfl, hb4⟩
            have HB4 := Lib.hid (HB3.out.trans (hb4.mono HB3.out.size))
            have HBX4 := Lib.hid ((HB4.out.block w.heap.size HBW2.out).trans HBX2.out)
            have HK4 := Lib.hid (HK2.out.below hgw HB4.out)
            have HCK4 := Lib.hid (HCK2.out.step HB4.out)
            clear hb4 a0 a1 a2 a3 a4 a5
            obtain ⟨a0, a1, a2, a3, a4, a5⟩ := row6 HBX4.out
            simp only [Dm.k, Dm.l]
            generalize hed : endA _ l = be
            cases be with
            | false =>
              have HED := Lib.hid hed
              clear hed
              go_wp2_with fail
              go_ret
              exact SndPost.no HK4.out HCK4.out (by have := HC1.out; omega) (.inl (by rw [HNODE.out, HED.out]; simp))
            | true =>
              have HED := Lib.hid hed
              clear hed
              go_wp2_with fail
              refine (call_any W g f l (fun j h => HIH.out (l[j]'h) (HSZ.out j h) (HSM.out j h) f (by have := HF.out; omega)) _ xs _ (c + 1) _ HDP2.out (HRW2.out.below HB4.out) HAP.out (HIN2.out.move (Keeps.of_below HB4.out)) HCK4.out (by have := HC1.out; omega) (HT2.out.below HB4.out)).mono ?_
              rintro e w5 ⟨b5, c5, rfl, hk5, hck5, hc5, hyes, hno⟩
              have HK5 := Lib.hid (HK4.out.trans hk5)
              have HCK5 := Lib.hid hck5
              clear hk5 hck5 a0 a1 a2 a3 a4 a5
              cases b5 with
              | false =>
                have HNO := Lib.hid (hno rfl)
                clear hyes hno
                go_wp2_with fail
                go_ret
                refine SndPost.no HK5.out HCK5.out hc5 ?_
                rcases HNO.out with h | h
                · exact .inl (by rw [HNODE.out, h]; simp)
                · right
                  have := HSP.out.2
                  omega
              | true =>
                have HYES := Lib.hid (hyes rfl)
                clear hyes hno
                go_wp2_with fail
                go_ret
                obtain ⟨h1, h2, h3⟩ := HYES.out
                exact SndPost.yes HK5.out HCK5.out h3 (by rw [HNODE.out, HBL.out, HED.out, h1, HE.out]; rfl) (by have := HSP.out.2; omega)
      · obtain ⟨s1, s2, s3⟩ := nonempty_str he
        have HE : Hid (decide (t = []) = false) := Lib.hid (by simp [he])
        clear he
        rcases hk with rfl | rfl | rfl
        all_goals
          go_enter Tryd.func56, Tryd.ntmps56
          go_wp2_with fail
          go_ret
          exact SndPost.no HK2.out HCK2.out (by have := HC1.out; omega) (.inl (by rw [HNODE.out, HE.out]; simp))
    have d1 : (k == 1) = false := by rw [beq_eq_false_iff_ne]; omega
    have d2 : (k == 2) = false := by rw [beq_eq_false_iff_ne]; omega
    have d3 : (k == 3) = false := by rw [beq_eq_false_iff_ne]; omega
    by_cases h7 : k = 7
    · subst h7
      have HINT := Lib.hid (okD_int (f := f) (t := t) (n := n) (r := r) (l := l) (a := a))
      by_cases he : t = []
      · obtain ⟨s1, s2, s3⟩ := empty_str he
        have HE := Lib.hid he
        clear he hk d1 d2 d3
        go_enter Tryd.func56, Tryd.ntmps56
        go_wp2_with fail
        refine (sound_any n _ r _ HR2.out HLIM.out).mono ?_
        rintro e w3 ⟨rfl, hb3⟩
        have HB3 := Lib.hid hb3
        have HBX3 := Lib.hid ((hb3.block w.heap.size HBW2.out).trans HBX2.out)
        have HK3 := Lib.hid (HK2.out.below hgw hb3)
        have HCK3 := Lib.hid (HCK2.out.step hb3)
        clear hb3 a0 a1 a2 a3 a4 a5 c0 c1 c2 c3
        obtain ⟨a0, a1, a2, a3, a4, a5⟩ := row6 HBX3.out
        cases hbl : sndB n r with
        | false =>
          have HBL := Lib.hid hbl
          clear hbl
          go_wp2_with fail
          go_ret
          exact SndPost.no HK3.out HCK3.out (by have := HC1.out; omega) (.inl (by rw [HINT.out, HBL.out]; simp))
        | true =>
          have HBL := Lib.hid hbl
          clear hbl
          by_cases h0 : l.length = 0
          · have hd3 : (((l.length : Nat) : Int) == 0) = true := by rw [h0]; rfl
            have HL0 := Lib.hid h0
            clear h0
            go_wp2_with fail
            go_ret
            exact SndPost.yes HK3.out HCK3.out (by have := HC1.out; omega) (by rw [HINT.out, HBL.out, HL0.out, HE.out]; rfl) (by have := HSP.out.2; rw [HL0.out, szs_zero] at this; omega)
          · have hd3 : (((l.length : Nat) : Int) == 0) = false := by rw [beq_eq_false_iff_ne]; omega
            have HL0 : Hid (decide (l.length = 0) = false) := Lib.hid (by simpa using h0)
            clear h0
            go_wp2_with fail
            go_ret
            exact SndPost.no HK3.out HCK3.out (by have := HC1.out; omega) (.inl (by rw [HINT.out, HL0.out]; simp))
      · obtain ⟨s1, s2, s3⟩ := nonempty_str he
        have HE : Hid (decide (t = []) = false) := Lib.hid (by simp [he])
        clear he hk d1 d2 d3
        go_enter Tryd.func56, Tryd.ntmps56
        go_wp2_with fail
        go_ret
        exact SndPost.no HK2.out HCK2.out (by have := HC1.out; omega) (.inl (by rw [HINT.out, HE.out]; simp))
    have d7 : (k == 7) = false := by rw [beq_eq_false_iff_ne]; omega
    have HLEAF := Lib.hid (okD_leaf (f := f) (t := t) (n := n) (r := r) (l := l) (a := a) hk h7)
    clear hk h7
    go_enter Tryd.func56, Tryd.ntmps56
    go_wp2_with fail
    refine (written_any k t _ HBY.out HT2.out.t HTL.out).mono ?_
    rintro e w3 ⟨rfl, hb3⟩
    have HB3 := Lib.hid hb3
    have HBX3 := Lib.hid ((hb3.block w.heap.size HBW2.out).trans HBX2.out)
    have HK3 := Lib.hid (HK2.out.below hgw hb3)
    have HCK3 := Lib.hid (HCK2.out.step hb3)
    clear hb3 a0 a1 a2 a3 a4 a5 c0 c1 c2 c3
    obtain ⟨a0, a1, a2, a3, a4, a5⟩ := row6 HBX3.out
    cases hwr : wrtA k t with
    | false =>
      have HWR := Lib.hid hwr
      clear hwr
      go_wp2_with fail
      go_ret
      exact SndPost.no HK3.out HCK3.out (by have := HC1.out; omega) (.inl (by rw [HLEAF.out, HWR.out]; simp))
    | true =>
      have HWR := Lib.hid hwr
      clear hwr
      go_wp2_with fail
      refine (dblank_any n _ r _ (HR2.out.below HB3.out)).mono ?_
      rintro e w4 ⟨rfl, hb4⟩
      have HB4 := Lib.hid (HB3.out.trans (hb4.mono HB3.out.size))
      have HBX4 := Lib.hid ((HB4.out.block w.heap.size HBW2.out).trans HBX2.out)
      have HK4 := Lib.hid (HK2.out.below hgw HB4.out)
      have HCK4 := Lib.hid (HCK2.out.step HB4.out)
      clear hb4 a0 a1 a2 a3 a4 a5
      obtain ⟨a0, a1, a2, a3, a4, a5⟩ := row6 HBX4.out
      cases hbl : blankA n r with
      | false =>
        have HBL := Lib.hid hbl
        clear hbl
        go_wp2_with fail
        go_ret
        exact SndPost.no HK4.out HCK4.out (by have := HC1.out; omega) (.inl (by rw [HLEAF.out, HBL.out]; simp))
      | true =>
        have HBL := Lib.hid hbl
        clear hbl
        by_cases h0 : l.length = 0
        · have hd3 : (((l.length : Nat) : Int) == 0) = true := by rw [h0]; rfl
          have HL0 := Lib.hid h0
          clear h0
          go_wp2_with fail
          go_ret
          exact SndPost.yes HK4.out HCK4.out (by have := HC1.out; omega) (by rw [HLEAF.out, HBL.out, HWR.out, HL0.out]; rfl) (by have := HSP.out.2; rw [HL0.out, szs_zero] at this; omega)
        · have hd3 : (((l.length : Nat) : Int) == 0) = false := by rw [beq_eq_false_iff_ne]; omega
          have HL0 : Hid (decide (l.length = 0) = false) := Lib.hid (by simpa using h0)
          clear h0
          go_wp2_with fail
          go_ret
          exact SndPost.no HK4.out HCK4.out (by have := HC1.out; omega) (.inl (by rw [HLEAF.out, HL0.out]; simp))
end Go.Proofs.YtbfcbicbeagjkaaDoor
