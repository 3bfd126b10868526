/- A store, read: slot, Get, Kind, Len, Used. -/
import Derived.Test.YtocladhggcaokaaGreatDoorStRead
namespace Go.Proofs.YtocladhggcaokaaGreatDoor
open Go.RowKit

theorem get_none {s : St} {v : Int × Int} {i : Int} (h : s.obj v = none) : s.get v i = ((0, 0), 10) := by unfold St.get; rw [h]
theorem get_range {s : St} {v : Int × Int} {i : Int} {o : Ob} (h : s.obj v = some o) (hi : ¬ (0 ≤ i ∧ i < (o.s.length : Int))) : s.get v i = ((0, 0), 12) := by
  unfold St.get
  rw [h]
  simp only
  split
  · rw [List.getElem?_eq_none (by omega)]
  · rfl
theorem get_at {s : St} {v : Int × Int} {o : Ob} (h : s.obj v = some o) {j : Nat} (hj : j < o.s.length) : s.get v (j : Int) = (o.s[j], 0) := by
  unfold St.get
  rw [h]
  simp [hj]
theorem StM.objOf {w : World} {g : Nat} {R : Nat → Nat} {s : St} {ms : List OM} {ov nv mv : Value} (h : StM w g R s ms ov nv mv) {k : Nat} (hk : k < ms.length) : s.obj (7, (k : Int)) = some (ms[k]'hk).o := by
  unfold St.obj
  rw [if_pos ⟨rfl, by simp⟩, h.eqs]
  simp [hk]
theorem StM.objIs {w : World} {g : Nat} {R : Nat → Nat} {s : St} {ms : List OM} {ov nv mv : Value} (h : StM w g R s ms ov nv mv) {v : Int × Int} (hv : (s.obj v).isSome = true) : ∃ (k : Nat) (hk : k < ms.length), v = (7, (k : Int)) ∧ s.obj v = some (ms[k]'hk).o := by
  obtain ⟨o, ho⟩ := Option.isSome_iff_exists.1 hv
  obtain ⟨h1, h2, h3, h4⟩ := St.obj_some ho
  have hl := h.len
  obtain ⟨t, n⟩ := v
  simp only at h1 h2 h3
  subst h1
  obtain ⟨k, rfl⟩ := Int.eq_ofNat_of_zero_le h2
  exact ⟨k, by simpa [hl] using h3, rfl, h.objOf _⟩

/-- What slot answers. -/
def SlotPost (s : St) (ms : List OM) (v : Int × Int) (i : Int) (w : World) (e : Ending) (w' : World) : Prop :=
  Below w.heap.size w w' ∧ ((s.obj v = none ∧ e = .returned (.tuple #[.pointer none, .int .i64 10])) ∨ (∃ o, s.obj v = some o ∧ ¬ (0 ≤ i ∧ i < (o.s.length : Int)) ∧ e = .returned (.tuple #[.pointer none, .int .i64 12])) ∨
    ∃ (k j : Nat) (hk : k < ms.length) (_hj : j < (ms[k]'hk).o.s.length) (b cap : Nat), v = (7, (k : Int)) ∧ i = (j : Int) ∧ (ms[k]'hk).sv = .slice (some ⟨b, 0, none⟩) (ms[k]'hk).o.s.length cap ∧ e = .returned (.tuple #[.pointer (some ⟨b, j * 2, none⟩), .int .i64 0]))

set_option maxRecDepth 100000 in
set_option maxHeartbeats 2000000 in
theorem stslot_any (g : Nat) (R : Nat → Nat) (s : St) (ms : List OM) (ov nv mv : Value) (v : Int × Int) (i : Int) (w : World) (h : StM w g R s ms ov nv mv) :
    Calls Tryz.prog 179 #[.pointer (some ⟨g, 0, none⟩), vV v, .int .i64 i] w (SlotPost s ms v i w) := by
  have HM := Lib.hid h
  have HB1 := Lib.hid (below1 w (.cells #[.int .i64 v.1, .int .i64 v.2] 29))
  clear h
  show Calls Tryz.prog 179 #[.pointer (some ⟨g, 0, none⟩), .agg #[.int .i64 v.1, .int .i64 v.2], .int .i64 i] w _
  go_enter Tryz.func179, Tryz.ntmps179
  go_wp2_with fail
  refine (stfind_any g R s ms ov nv mv v _ (HM.out.below HB1.out)).mono ?_
  rintro e w1 ⟨hb1, h | ⟨b, cap, ho, hov, rfl⟩⟩
  · obtain ⟨ho, rfl⟩ := h
    have HB2 := Lib.hid (HB1.out.trans (hb1.mono (by simp)))
    have HO := Lib.hid ho
    clear hb1 ho
    go_wp2_with fail
    go_ret2
    exact ⟨HB2.out, .inl ⟨HO.out, rfl⟩⟩
  · have HB2 := Lib.hid (HB1.out.trans (hb1.mono (by simp)))
    clear hb1
    obtain ⟨k, hk, rfl, hok⟩ := HM.out.objIs ho
    have HO := Lib.hid hok
    obtain ⟨b', cap', e', _, _, _, _, _, q2, _⟩ := (HM.out.below HB2.out).objAt hk
    rw [hov] at e'
    simp only [Value.slice.injEq, Option.some.injEq, Addr.mk.injEq, and_true] at e'
    obtain ⟨rfl, _, rfl⟩ := e'
    have hsl := (HM.out.ok).slots (o := (ms[k]'hk).o) (by rw [HM.out.eqs]; exact List.mem_map_of_mem (List.getElem_mem hk))
    have HSR := Lib.hid ((HM.out.below HB2.out).srow k hk)
    obtain ⟨so, sc, hsv⟩ := own_dslice ((HM.out.below HB2.out).srow k hk)
    have HSV := Lib.hid hsv
    rw [hsv] at q2
    simp only [Int.toNat_natCast]
    clear ho hok hov hsv
    by_cases hi : 0 ≤ i ∧ i < ((ms[k]'hk).o.s.length : Int)
    · obtain ⟨j, rfl⟩ := Int.eq_ofNat_of_zero_le hi.1
      have hj : j < (ms[k]'hk).o.s.length := by have := hi.2; omega
      obtain ⟨b2, cap2, e2, hrest⟩ := (HM.out.below HB2.out).slotAt hk hj
      clear hrest
      rw [HSV.out] at e2
      simp only [Value.slice.injEq, true_and] at e2
      obtain ⟨rfl, rfl⟩ := e2
      have h1 : ((j : Nat) : Int) < (((ms[k]'hk).o.s.length : Nat) : Int) := by omega
      clear hi
      go_wp2_with fail
      go_ret2
      exact ⟨HB2.out, .inr (.inr ⟨k, j, hk, hj, b2, _, rfl, rfl, HSV.out, rfl⟩)⟩
    · have HI := Lib.hid hi
      by_cases h0 : i < 0
      · clear hi
        go_wp2_with fail
        go_ret2
        exact ⟨HB2.out, .inr (.inl ⟨_, HO.out, HI.out, rfl⟩)⟩
      · have h1 : (((ms[k]'hk).o.s.length : Nat) : Int) ≤ i := by omega
        clear hi
        go_wp2_with fail
        go_ret2
        exact ⟨HB2.out, .inr (.inl ⟨_, HO.out, HI.out, rfl⟩)⟩

set_option maxRecDepth 100000 in
set_option maxHeartbeats 2000000 in
theorem stget_any (g : Nat) (R : Nat → Nat) (s : St) (v : Int × Int) (i : Int) (w : World) (h : StW w g R s) :
    Calls Tryz.prog 166 #[.pointer (some ⟨g, 0, none⟩), vV v, .int .i64 i] w fun e w' => e = .returned (.tuple #[vV (s.get v i).1, .int .i64 (s.get v i).2]) ∧ Below w.heap.size w w' := by
  obtain ⟨ms, ov, nv, mv, hm⟩ := h
  have HM := Lib.hid hm
  clear hm
  have HB1 := Lib.hid (below2 w (.cells #[.int .i64 v.1, .int .i64 v.2] 29) (.cells #[.int .i64 0, .int .i64 0] 29))
  have HN1 : Hid (((w.alloc (.cells #[.int .i64 v.1, .int .i64 v.2] 29)).alloc (.cells #[.int .i64 0, .int .i64 0] 29)).heap[w.heap.size + 1]? = some (.cells #[.int .i64 0, .int .i64 0] 29 (0, 0))) := Lib.hid (by
    have := heap_alloc_new (w.alloc (.cells #[.int .i64 v.1, .int .i64 v.2] 29)) (.cells #[.int .i64 0, .int .i64 0] 29)
    simpa using this)
  show Calls Tryz.prog 166 #[.pointer (some ⟨g, 0, none⟩), .agg #[.int .i64 v.1, .int .i64 v.2], .int .i64 i] w _
  go_enter Tryz.func166, Tryz.ntmps166
  go_wp2_with fail
  refine (stslot_any g R s ms ov nv mv v i _ (HM.out.below HB1.out)).mono ?_
  rintro e w1 ⟨hb1, h | h | h⟩
  · obtain ⟨ho, rfl⟩ := h
    have HB2 := Lib.hid (HB1.out.trans (hb1.mono (by simp; omega)))
    have hbx := (hb1.block (w.heap.size + 1) (by simp)).trans HN1.out
    have HG := Lib.hid (get_none (i := i) ho)
    obtain ⟨p0, p1, z0, z1⟩ := row2 hbx
    clear ho hb1 hbx
    go_wp2_with fail
    rw [HG.out]
    refine bodyPost_ret (v := .tuple #[vV (0, 0), .int .i64 10]) (by simp [results, Tryz.results166, go_sem, vV, p0, p1]) rfl ⟨rfl, ?_⟩
    exact (HB2.out.setCell (by simp) _).setCell (by simp) _
  · obtain ⟨o, ho, hi, rfl⟩ := h
    have HB2 := Lib.hid (HB1.out.trans (hb1.mono (by simp; omega)))
    have hbx := (hb1.block (w.heap.size + 1) (by simp)).trans HN1.out
    have HG := Lib.hid (get_range ho hi)
    obtain ⟨p0, p1, z0, z1⟩ := row2 hbx
    clear ho hb1 hbx hi
    go_wp2_with fail
    rw [HG.out]
    refine bodyPost_ret (v := .tuple #[vV (0, 0), .int .i64 12]) (by simp [results, Tryz.results166, go_sem, vV, p0, p1]) rfl ⟨rfl, ?_⟩
    exact (HB2.out.setCell (by simp) _).setCell (by simp) _
  · obtain ⟨k, j, hk, hj, b, cap, rfl, rfl, hsv, rfl⟩ := h
    have HB2 := Lib.hid (HB1.out.trans (hb1.mono (by simp; omega)))
    have hbx := (hb1.block (w.heap.size + 1) (by simp)).trans HN1.out
    have HG := Lib.hid (get_at (HM.out.objOf hk) hj)
    obtain ⟨b2, cap2, e2, _, _, hbl, d0, d1, _⟩ := (HM.out.below HB2.out).slotAt hk hj
    obtain ⟨_, _, e3, _, _, hbl3, _⟩ := HM.out.slotAt hk hj
    rw [hsv] at e2 e3
    simp only [Value.slice.injEq, Option.some.injEq, Addr.mk.injEq, true_and, and_true] at e2 e3
    obtain ⟨rfl, rfl⟩ := e2
    obtain ⟨rfl, rfl⟩ := e3
    have hne : b ≠ w.heap.size + 1 := by omega
    obtain ⟨p0, p1, z0, z1⟩ := row2 hbx
    generalize hx : (ms[k]'hk).o.s[j] = x at *
    clear hb1 hbx hx hsv hbl
    go_wp2_with fail
    rw [HG.out]
    refine bodyPost_ret (v := .tuple #[vV x, .int .i64 0]) (by simp [results, Tryz.results166, go_sem, vV, p0, p1]) rfl ⟨rfl, ?_⟩
    exact (HB2.out.setCell (by simp) _).setCell (by simp) _

set_option maxRecDepth 100000 in
theorem stkind_any (g : Nat) (R : Nat → Nat) (s : St) (v : Int × Int) (w : World) (h : StW w g R s) :
    Calls Tryz.prog 103 #[.pointer (some ⟨g, 0, none⟩), vV v] w fun e w' => e = .returned (.int .i64 (s.kind v)) ∧ Below w.heap.size w w' := by
  obtain ⟨ms, ov, nv, mv, hm⟩ := h
  have HM := Lib.hid hm
  have HB1 := Lib.hid (below1 w (.cells #[.int .i64 v.1, .int .i64 v.2] 29))
  clear hm
  show Calls Tryz.prog 103 #[.pointer (some ⟨g, 0, none⟩), .agg #[.int .i64 v.1, .int .i64 v.2]] w _
  go_enter Tryz.func103, Tryz.ntmps103
  go_wp2_with fail
  refine (stfind_any g R s ms ov nv mv v _ (HM.out.below HB1.out)).mono ?_
  rintro e w1 ⟨hb1, h | ⟨b, cap, ho, hov, rfl⟩⟩
  · obtain ⟨ho, rfl⟩ := h
    have HB2 := Lib.hid (HB1.out.trans (hb1.mono (by simp)))
    have HO := Lib.hid ho
    clear hb1 ho
    go_wp2_with fail
    go_ret
    exact ⟨by unfold St.kind; rw [HO.out]; rfl, HB2.out⟩
  · have HB2 := Lib.hid (HB1.out.trans (hb1.mono (by simp)))
    clear hb1
    obtain ⟨k, hk, rfl, hok⟩ := HM.out.objIs ho
    have HO := Lib.hid hok
    obtain ⟨b', cap', e', _, _, _, q0, _, _, _⟩ := (HM.out.below HB2.out).objAt hk
    rw [hov] at e'
    simp only [Value.slice.injEq, Option.some.injEq, Addr.mk.injEq, and_true] at e'
    obtain ⟨rfl, _, rfl⟩ := e'
    simp only [Int.toNat_natCast]
    clear ho hok hov
    go_wp2_with fail
    go_ret
    exact ⟨by unfold St.kind; rw [HO.out]; rfl, HB2.out⟩
set_option maxRecDepth 100000 in
theorem stlen_any (g : Nat) (R : Nat → Nat) (s : St) (v : Int × Int) (w : World) (h : StW w g R s) :
    Calls Tryz.prog 104 #[.pointer (some ⟨g, 0, none⟩), vV v] w fun e w' => e = .returned (.int .i64 ((s.len v : Nat) : Int)) ∧ Below w.heap.size w w' := by
  obtain ⟨ms, ov, nv, mv, hm⟩ := h
  have HM := Lib.hid hm
  have HB1 := Lib.hid (below1 w (.cells #[.int .i64 v.1, .int .i64 v.2] 29))
  clear hm
  show Calls Tryz.prog 104 #[.pointer (some ⟨g, 0, none⟩), .agg #[.int .i64 v.1, .int .i64 v.2]] w _
  go_enter Tryz.func104, Tryz.ntmps104
  go_wp2_with fail
  refine (stfind_any g R s ms ov nv mv v _ (HM.out.below HB1.out)).mono ?_
  rintro e w1 ⟨hb1, h | ⟨b, cap, ho, hov, rfl⟩⟩
  · obtain ⟨ho, rfl⟩ := h
    have HB2 := Lib.hid (HB1.out.trans (hb1.mono (by simp)))
    have HO := Lib.hid ho
    clear hb1 ho
    go_wp2_with fail
    go_ret
    exact ⟨by unfold St.len; rw [HO.out]; rfl, HB2.out⟩
  · have HB2 := Lib.hid (HB1.out.trans (hb1.mono (by simp)))
    clear hb1
    obtain ⟨k, hk, rfl, hok⟩ := HM.out.objIs ho
    have HO := Lib.hid hok
    obtain ⟨b', cap', e', _, _, _, _, _, q2, _⟩ := (HM.out.below HB2.out).objAt hk
    rw [hov] at e'
    simp only [Value.slice.injEq, Option.some.injEq, Addr.mk.injEq, and_true] at e'
    obtain ⟨rfl, _, rfl⟩ := e'
    obtain ⟨so, sc, hsv⟩ := own_dslice ((HM.out.below HB2.out).srow k hk)
    rw [hsv] at q2
    simp only [Int.toNat_natCast]
    clear ho hok hov
    go_wp2_with fail
    go_ret
    exact ⟨by unfold St.len; rw [HO.out]; rfl, HB2.out⟩
end Go.Proofs.YtocladhggcaokaaGreatDoor
