/- A store, made and set: New, Set. -/
import Derived.Test.YtioidaojnbenbaaStMake
namespace Go.Proofs.Ytioidaojnbenbaa
open Go.RowKit

/-- A store in which nothing is. -/
def St.new (L : Nat) : St := ⟨L, 0, [], []⟩
def Rnew (g : Nat) : Nat → Nat := fun b => if b = g then 1 else 0
theorem Rnew_ne {g b : Nat} (h : Rnew g b ≠ 0) : b = g := by unfold Rnew at h; split at h; assumption; exact absurd rfl h
theorem stw_new (w : World) (L : Nat) (hL : L ≤ 1048576) : StW (w.alloc (.cells #[.int .i64 (L : Nat), .int .i64 0, .slice none 0 0, .slice none 0 0, .map none] 69)) w.heap.size (Rnew w.heap.size) (St.new L) := by
  refine ⟨[], .slice none 0 0, .slice none 0 0, .map none, ⟨⟨Nat.zero_le _, hL, rfl, fun o h => (by cases h), fun o h => (by cases h), List.nodup_nil, Nat.zero_le _⟩, rfl, fun b hb => ?_, ?_, heap_alloc_new w _, World.ownsRow_nil _ _ _ _, fun b hb => (by cases hb), fun i hi => (by simp at hi), fun i hi => (by simp at hi), fun i hi => (by simp at hi), World.ownsRow_nil _ _ _ _, fun b hb => (by cases hb), .inl ⟨rfl, rfl⟩⟩⟩
  · have := Rnew_ne hb; subst this; simp
  · unfold Rnew; simp

set_option maxRecDepth 100000 in
theorem stnew_any (L : Nat) (w : World) (hL : L ≤ 1048576) : Calls Try.prog 6 #[.int .i64 (L : Nat)] w fun e w' => e = .returned (.tuple #[.pointer (some ⟨w.heap.size, 0, none⟩), .int .i64 0]) ∧ StW w' w.heap.size (Rnew w.heap.size) (St.new L) ∧ Below w.heap.size w w' ∧ w'.heap.size = w.heap.size + 1 := by
  have HW := Lib.hid (stw_new w L hL)
  have HB := Lib.hid (below1 w (.cells #[.int .i64 (L : Nat), .int .i64 0, .slice none 0 0, .slice none 0 0, .map none] 69))
  have h1 : ¬ (1048576 : Int) < ((L : Nat) : Int) := by omega
  have h0 : ¬ ((L : Nat) : Int) < 0 := by omega
  go_enter Try.func6, Try.ntmps6
  go_wp2_with fail
  go_ret2
  exact ⟨rfl, HW.out, HB.out, by simp⟩
set_option maxRecDepth 100000 in
theorem stnew_err (c : Int) (w : World) (hc : c < 0 ∨ 1048576 < c) : Calls Try.prog 6 #[.int .i64 c] w fun e w' => e = .returned (.tuple #[.pointer none, .int .i64 1]) ∧ w = w' := by
  rcases hc with hc | hc
  · go_enter Try.func6, Try.ntmps6
    go_wp2_with fail
    go_ret2
    exact ⟨rfl, rfl⟩
  · have h0 : ¬ c < 0 := by omega
    go_enter Try.func6, Try.ntmps6
    go_wp2_with fail
    go_ret2
    exact ⟨rfl, rfl⟩

theorem StP.of_below {w w' : World} {g : Nat} {R : Nat → Nat} {s : St} (h : StW w g R s) (hb : Below w.heap.size w w') : StP w g R s w' := ⟨R, h.below hb, Fr.of_below hb, fun _ _ => Iff.rfl⟩
theorem StP.after {w w1 w2 : World} {g : Nat} {R : Nat → Nat} {s : St} (hb : Below w.heap.size w w1) (h : StP w1 g R s w2) : StP w g R s w2 := by
  obtain ⟨R', h1, h2, h3⟩ := h
  exact ⟨R', h1, (Fr.of_below (R := R) hb).tr h2, fun b hb' => h3 b (Nat.lt_of_lt_of_le hb' hb.size)⟩
/-- Something new, and not the store's, is written behind. -/
theorem StP.set {w w' : World} {g : Nat} {R : Nat → Nat} {s : St} (h : ∃ R', StW w' g R' s ∧ Fr R w w' ∧ (∀ b, b < w.heap.size → (R' b = 0 ↔ R b = 0)) ∧ ∀ b, w.heap.size ≤ b → R' b = 0) {p : Addr} (hp : w.heap.size ≤ p.block) (u : Value) :
    ∃ R', StW (w'.setCell p u) g R' s ∧ Fr R w (w'.setCell p u) ∧ (∀ b, b < w.heap.size → (R' b = 0 ↔ R b = 0)) ∧ ∀ b, w.heap.size ≤ b → R' b = 0 := by
  obtain ⟨R', h1, h2, h3, h4⟩ := h
  exact ⟨R', h1.keep ((Keeps.refl (fun b => R' b ≠ 0) _).set (fun h => h (h4 _ hp)) u), h2.set (.inl hp) u, h3, h4⟩

theorem setA_err {s : St} {v : Int × Int} {i : Int} {x : Int × Int} {c : Int} (h : (s.get v i).2 = c) (hc : c ≠ 0) : s.setA v i x = (c, s) := by unfold St.setA; rw [if_pos (by rw [h]; exact hc), h]

set_option maxRecDepth 100000 in
set_option maxHeartbeats 2000000 in
theorem stset_any (g : Nat) (R : Nat → Nat) (s : St) (v : Int × Int) (i : Int) (x : Int × Int) (w : World) (h : StW w g R s) :
    Calls Try.prog 15 #[.pointer (some ⟨g, 0, none⟩), vV v, .int .i64 i, vV x] w fun e w' => e = .returned (.int .i64 (s.setA v i x).1) ∧ StP w g R (s.setA v i x).2 w' := by
  obtain ⟨ms, ov, nv, mv, hm⟩ := h
  have HM := Lib.hid hm
  clear hm
  have HB1 := Lib.hid (below2 w (.cells #[.int .i64 v.1, .int .i64 v.2] 35) (.cells #[.int .i64 x.1, .int .i64 x.2] 35))
  have HN1 : Hid (((w.alloc (.cells #[.int .i64 v.1, .int .i64 v.2] 35)).alloc (.cells #[.int .i64 x.1, .int .i64 x.2] 35)).heap[w.heap.size + 1]? = some (.cells #[.int .i64 x.1, .int .i64 x.2] 35 (0, 0))) := Lib.hid (by
    have := heap_alloc_new (w.alloc (.cells #[.int .i64 v.1, .int .i64 v.2] 35)) (.cells #[.int .i64 x.1, .int .i64 x.2] 35)
    simpa using this)
  show Calls Try.prog 15 #[.pointer (some ⟨g, 0, none⟩), .agg #[.int .i64 v.1, .int .i64 v.2], .int .i64 i, .agg #[.int .i64 x.1, .int .i64 x.2]] w _
  go_enter Try.func15, Try.ntmps15
  go_wp2_with fail
  refine (stslot_any g R s ms ov nv mv v i _ (HM.out.below HB1.out)).mono ?_
  rintro e w1 ⟨hb1, h | h | h⟩
  · obtain ⟨ho, rfl⟩ := h
    have HB2 := Lib.hid (HB1.out.trans (hb1.mono (by simp; omega)))
    have HE := Lib.hid (setA_err (x := x) (by rw [get_none (i := i) ho]) (c := 10) (by decide))
    clear ho hb1
    go_wp2_with fail
    go_ret
    rw [HE.out]
    exact ⟨rfl, StP.of_below ⟨ms, ov, nv, mv, HM.out⟩ HB2.out⟩
  · obtain ⟨o, ho, hi, rfl⟩ := h
    have HB2 := Lib.hid (HB1.out.trans (hb1.mono (by simp; omega)))
    have HE := Lib.hid (setA_err (x := x) (by rw [get_range ho hi]) (c := 12) (by decide))
    clear ho hb1 hi
    go_wp2_with fail
    go_ret
    rw [HE.out]
    exact ⟨rfl, StP.of_below ⟨ms, ov, nv, mv, HM.out⟩ HB2.out⟩
  · obtain ⟨k, j, hk, hj, b, cap, rfl, rfl, hsv, rfl⟩ := h
    have HB2 := Lib.hid (HB1.out.trans (hb1.mono (by simp; omega)))
    have hbx := (hb1.block (w.heap.size + 1) (by simp)).trans HN1.out
    have HG := Lib.hid (get_at (HM.out.objOf hk) hj)
    have HSV := Lib.hid hsv
    obtain ⟨p0, p1, z0, z1⟩ := row2 hbx
    clear hb1 hbx hsv
    go_wp2_with fail
    refine (stsound_any g R s x _ ⟨ms, ov, nv, mv, HM.out.below HB2.out⟩).mono ?_
    rintro e w2 ⟨rfl, hb2⟩
    have HB3 := Lib.hid (HB2.out.trans (hb2.mono HB2.out.size))
    have hbx := (HB3.out.block w.heap.size)
    have q0 := hb2.cell (p := ⟨w.heap.size + 1, 0, none⟩) (World.block_lt_of_cell? w1 _ p0)
    have q1 := hb2.cell (p := ⟨w.heap.size + 1, 1, none⟩) (World.block_lt_of_cell? w1 _ p1)
    rw [p0] at q0
    rw [p1] at q1
    clear p0 p1 z0 z1 hbx hb2
    cases hs : sdV s.os.length s.ns.length x with
    | false =>
      have HE : Hid (s.setA (7, (k : Int)) (j : Int) x = (2, s)) := Lib.hid (by unfold St.setA; rw [HG.out, if_neg (by simp), if_pos hs])
      clear hs
      go_wp2_with fail
      go_ret
      rw [HE.out]
      exact ⟨rfl, StP.of_below ⟨ms, ov, nv, mv, HM.out⟩ HB3.out⟩
    | true =>
      have HE : Hid (s.setA (7, (k : Int)) (j : Int) x = (0, s.put k j x)) := Lib.hid (by unfold St.setA; rw [HG.out, if_neg (by simp), if_neg (by rw [hs]; simp)]; simp)
      have HS := Lib.hid hs
      clear hs
      obtain ⟨b2, cap2, e2, _, hRb, hbl, d0, d1, hfz⟩ := (HM.out.below HB3.out).slotAt hk hj
      rw [HSV.out] at e2
      simp only [Value.slice.injEq, Option.some.injEq, Addr.mk.injEq, true_and, and_true] at e2
      obtain ⟨rfl, rfl⟩ := e2
      have hf0 := hfz (j * 2)
      have hf1 := hfz (j * 2 + 1)
      have hRB := Lib.hid hRb
      clear hfz hRb
      go_wp2_with fail
      go_ret
      rw [HE.out]
      obtain ⟨ms', hst⟩ := (HM.out.below HB3.out).put hk hj x HS.out HSV.out
      exact ⟨rfl, R, ⟨ms', ov, nv, mv, hst⟩, ((Fr.of_below (R := R) HB3.out).set (p := ⟨b, j * 2, none⟩) (.inr (by show R b ≠ 0; rw [hRB.out]; omega)) _).set (p := ⟨b, j * 2 + 1, none⟩) (.inr (by show R b ≠ 0; rw [hRB.out]; omega)) _, fun _ _ => Iff.rfl⟩
end Go.Proofs.Ytioidaojnbenbaa
