/- lift without a store; small numbers. -/
import Derived.Test.YtocladhggcaokaaGreatDoorSmall
import Derived.Test.YtocladhggcaokaaGreatDoorStRead
import Derived.Deep.Cut
namespace Go.Proofs.YtocladhggcaokaaGreatDoor
open Go.RowKit

theorem put2n {W : World} {g : Nat} {a0 a1 : Value} {e : TypeId} (h : W.heap[g]? = some (.cells #[a0, a1] e (0, 0))) (b0 b1 : Value) : ((W.setCell ⟨g, 0, none⟩ b0).setCell ⟨g, 1, none⟩ b1).heap[g]? = some (.cells #[b0, b1] e (0, 0)) := (rowSet (rowSet h 0 b0) 1 b1).trans (by simp)
theorem newsA {w : World} {a b : Obj} : ((w.alloc a).alloc b).heap[w.heap.size]? = some a ∧ ((w.alloc a).alloc b).heap[w.heap.size + 1]? = some b := by
  refine ⟨?_, ?_⟩
  · rw [Below.heap_alloc _ _ _ (by simp)]; exact heap_alloc_new w _
  · have := heap_alloc_new (w.alloc a) b
    simpa using this
def SmOr (neg : Bool) (xs : List Nat) (k : Int) (ok : Bool) : Prop := (ok = true ∧ Snd neg xs ∧ val xs ≤ most neg ∧ k = ival neg xs) ∨ (ok = false ∧ k = 0 ∧ ¬ (Snd neg xs ∧ val xs ≤ most neg))
/-- What small answers. -/
def LsPost (neg : Bool) (xs : List Nat) (w : World) (e : Ending) (w' : World) : Prop :=
  ∃ k ok, e = .returned (.tuple #[.int .i64 k, .bool (ok && decide (-1000000000000000000 < k) && decide (k < 1000000000000000000))]) ∧ Below w.heap.size w w' ∧ SmOr neg xs k ok
set_option maxRecDepth 100000 in
theorem lsmall_any (neg : Bool) (sv : Value) (xs : List Nat) (w : World) (hs : Sl .u32 w sv xs) (hx : ∀ i, limb xs i < 4294967296) :
    Calls Tryz.prog 99 #[.agg #[.bool neg, sv]] w (LsPost neg xs w) := by
  obtain ⟨_, ao, cap, rfl, _, _⟩ := id hs
  have HB1 := Lib.hid (below1 w (.cells #[.bool neg, .slice ao xs.length cap] 24))
  have HS := Lib.hid (hs.below HB1.out)
  have HX := Lib.hid hx
  obtain ⟨p0, p1, _⟩ := row2 (box1 w #[.bool neg, .slice ao xs.length cap] 24)
  clear hs hx
  go_enter Tryz.func99, Tryz.ntmps99
  go_wp2_with fail
  refine (small_any neg _ xs _ HS.out HX.out).mono ?_
  rintro e w2 ⟨k, ok, rfl, hb2, hor⟩
  have HB2 := Lib.hid (HB1.out.trans (hb2.mono HB1.out.size))
  have HOR : Hid (SmOr neg xs k ok) := Lib.hid hor
  clear hb2 hor p0 p1
  cases ok with
  | false =>
    go_wp2_with fail
    refine bodyPost_ret (v := .tuple #[.int .i64 k, .bool false]) (by simp [results, Tryz.results99, go_sem]) rfl ⟨k, false, rfl, HB2.out, HOR.out⟩
  | true =>
    by_cases h1 : -1000000000000000000 < k
    · have h1b : k > -1000000000000000000 := h1
      by_cases h2 : k < 1000000000000000000
      · go_wp2_with fail
        refine bodyPost_ret (v := .tuple #[.int .i64 k, .bool true]) (by simp [results, Tryz.results99, go_sem]) rfl ⟨k, true, by rw [decide_eq_true h1, decide_eq_true h2]; rfl, HB2.out, HOR.out⟩
      · have e2 : decide (k < 1000000000000000000) = false := decide_eq_false h2
        have HE : Hid ((true && decide (-1000000000000000000 < k) && decide (k < 1000000000000000000)) = false) := Lib.hid (by rw [e2, Bool.and_false])
        clear e2
        go_wp2_with fail
        refine bodyPost_ret (v := .tuple #[.int .i64 k, .bool false]) (by simp [results, Tryz.results99, go_sem]; try omega) rfl ⟨k, true, by rw [HE.out], HB2.out, HOR.out⟩
    · have h1b : ¬ k > -1000000000000000000 := h1
      have e2 : decide (-1000000000000000000 < k) = false := decide_eq_false h1
      have HE : Hid ((true && decide (-1000000000000000000 < k) && decide (k < 1000000000000000000)) = false) := Lib.hid (by rw [e2, Bool.and_false, Bool.false_and])
      clear e2
      go_wp2_with fail
      refine bodyPost_ret (v := .tuple #[.int .i64 k, .bool false]) (by simp [results, Tryz.results99, go_sem]; try omega) rfl ⟨k, true, by rw [HE.out], HB2.out, HOR.out⟩
set_option maxRecDepth 100000 in
theorem lfix_any (n : Int) (w : World) : Calls Tryz.prog 100 #[.int .i64 n] w fun e w' => e = .returned (.agg #[.int .i64 4, .int .i64 n]) ∧ Below w.heap.size w w' := by
  have HB1 := Lib.hid (below1 w (.cells #[.int .i64 0, .int .i64 0] 29))
  have HN := Lib.hid (box1 w #[.int .i64 0, .int .i64 0] 29)
  obtain ⟨p0, p1, z0, z1⟩ := row2 HN.out
  go_enter Tryz.func100, Tryz.ntmps100
  go_upto_region 1 with fail
  generalize w.alloc (.cells #[.int .i64 0, .int .i64 0] 29) = w1 at *
  go_wp2_with fail
  have hx := put2n HN.out (.int .i64 4) (.int .i64 n)
  obtain ⟨r0, r1, _⟩ := row2 hx
  refine bodyPost_ret (v := .agg #[.int .i64 4, .int .i64 n]) (by simp [results, Tryz.results100, go_sem, r0, r1]) rfl ⟨rfl, (HB1.out.setCell (by simp) _).setCell (by simp) _⟩
set_option maxRecDepth 100000 in
theorem nfind_all (v : Int × Int) (w : World) : Calls Tryz.prog 148 #[.pointer none, .agg #[.int .i64 v.1, .int .i64 v.2]] w fun e w' => e = .returned (.pointer none) ∧ Below w.heap.size w w' := by
  obtain ⟨t, n⟩ := v
  simp only
  have HB1 := Lib.hid (below1 w (.cells #[.int .i64 t, .int .i64 n] 29))
  obtain ⟨p0, p1, _⟩ := row2 (box1 w #[.int .i64 t, .int .i64 n] 29)
  by_cases h7 : t = 7
  · subst h7
    go_enter Tryz.func148, Tryz.ntmps148
    go_wp2_with fail
    refine (show Calls Tryz.prog 50 #[.pointer none, .agg #[.int .i64 7, .int .i64 n]] _ fun e w' => e = .returned (.bool false) ∧ Below (w.heap.size + 1) (w.alloc (.cells #[.int .i64 7, .int .i64 n] 29)) w' from ?_).mono ?_
    · have HB2 := Lib.hid (below1 (w.alloc (.cells #[.int .i64 7, .int .i64 n] 29)) (.cells #[.int .i64 7, .int .i64 n] 29))
      clear p0 p1
      obtain ⟨p0, p1, _⟩ := row2 (box1 (w.alloc (.cells #[.int .i64 7, .int .i64 n] 29)) #[.int .i64 7, .int .i64 n] 29)
      go_enter Tryz.func50, Tryz.ntmps50
      go_wp2_with fail
      go_ret
      exact ⟨rfl, by simpa using HB2.out⟩
    · rintro e w2 ⟨rfl, hb2⟩
      have HB2 := Lib.hid (HB1.out.trans (hb2.mono (by omega)))
      clear hb2 p0 p1
      go_wp2_with fail
      go_ret
      exact ⟨rfl, HB2.out⟩
  · have h7b : (t != 7) = true := by rw [bne_iff_ne]; exact h7
    have h7c : (t == 7) = false := by rw [beq_eq_false_iff_ne]; exact h7
    go_enter Tryz.func148, Tryz.ntmps148
    go_wp2_with fail
    go_ret
    exact ⟨rfl, HB1.out⟩
set_option maxRecDepth 100000 in
theorem nkind_all (v : Int × Int) (w : World) : Calls Tryz.prog 103 #[.pointer none, .agg #[.int .i64 v.1, .int .i64 v.2]] w fun e w' => e = .returned (.int .i64 0) ∧ Below w.heap.size w w' := by
  obtain ⟨t, n⟩ := v
  simp only
  have HB1 := Lib.hid (below1 w (.cells #[.int .i64 t, .int .i64 n] 29))
  obtain ⟨p0, p1, _⟩ := row2 (box1 w #[.int .i64 t, .int .i64 n] 29)
  go_enter Tryz.func103, Tryz.ntmps103
  go_wp2_with fail
  refine (nfind_all (t, n) _).mono ?_
  rintro e w2 ⟨rfl, hb2⟩
  have HB2 := Lib.hid (HB1.out.trans (hb2.mono HB1.out.size))
  clear hb2 p0 p1
  go_wp2_with fail
  go_ret
  exact ⟨rfl, HB2.out⟩
set_option maxRecDepth 100000 in
theorem nsound_al8 (v : Int × Int) (w : World) : Calls Tryz.prog 50 #[.pointer none, .agg #[.int .i64 v.1, .int .i64 v.2]] w fun e w' => e = .returned (.bool false) ∧ Below w.heap.size w w' := by
  obtain ⟨t, n⟩ := v
  simp only
  have HB1 := Lib.hid (below1 w (.cells #[.int .i64 t, .int .i64 n] 29))
  obtain ⟨p0, p1, _⟩ := row2 (box1 w #[.int .i64 t, .int .i64 n] 29)
  go_enter Tryz.func50, Tryz.ntmps50
  go_wp2_with fail
  go_ret
  exact ⟨rfl, HB1.out⟩
set_option maxRecDepth 100000 in
/-- Down, without a store. -/
theorem ldown_nil (k : Int) (t : ByteArray) (ng : Bool) (lv av : Value) (a : Int) (w : World) : Calls Tryz.prog 11 #[.pointer none, .agg #[.int .i64 k, .string t, .bool ng, lv, av, .int .i64 a]] w fun e w' => e = .returned (.tuple #[.agg #[.int .i64 0, .int .i64 0], .int .i64 2]) ∧ Below w.heap.size w w' := by
  have HB1 := Lib.hid (below2 w (.cells #[.int .i64 k, .string t, .bool ng, lv, av, .int .i64 a] 27) (.cells #[.int .i64 0, .int .i64 0] 29))
  have HN := Lib.hid (@newsA w (.cells #[.int .i64 k, .string t, .bool ng, lv, av, .int .i64 a] 27) (.cells #[.int .i64 0, .int .i64 0] 29)).2
  go_enter Tryz.func11, Tryz.ntmps11
  go_upto_region 1 with fail
  generalize (w.alloc (.cells #[.int .i64 k, .string t, .bool ng, lv, av, .int .i64 a] 27)).alloc (.cells #[.int .i64 0, .int .i64 0] 29) = w1 at *
  obtain ⟨p0, p1, z0, z1⟩ := row2 HN.out
  go_wp2_with fail
  have hx := put2n HN.out (.int .i64 0) (.int .i64 0)
  obtain ⟨r0, r1, _⟩ := row2 hx
  refine bodyPost_ret (v := .tuple #[.agg #[.int .i64 0, .int .i64 0], .int .i64 2]) (by simp [results, Tryz.results11, go_sem, r0, r1]) rfl ⟨rfl, (HB1.out.setCell (by simp) _).setCell (by simp) _⟩
set_option maxRecDepth 100000 in
/-- Int, without a store. -/
theorem lint_nil (ng : Bool) (lv : Value) (w : World) : Calls Tryz.prog 14 #[.pointer none, .agg #[.bool ng, lv]] w fun e w' => e = .returned (.tuple #[.agg #[.int .i64 0, .int .i64 0], .int .i64 2]) ∧ Below w.heap.size w w' := by
  have HB1 := Lib.hid (below2 w (.cells #[.bool ng, lv] 24) (.cells #[.int .i64 0, .int .i64 0] 29))
  have HN := Lib.hid (@newsA w (.cells #[.bool ng, lv] 24) (.cells #[.int .i64 0, .int .i64 0] 29)).2
  go_enter Tryz.func14, Tryz.ntmps14
  go_upto_region 1 with fail
  generalize (w.alloc (.cells #[.bool ng, lv] 24)).alloc (.cells #[.int .i64 0, .int .i64 0] 29) = w1 at *
  obtain ⟨p0, p1, z0, z1⟩ := row2 HN.out
  go_wp2_with fail
  have hx := put2n HN.out (.int .i64 0) (.int .i64 0)
  obtain ⟨r0, r1, _⟩ := row2 hx
  refine bodyPost_ret (v := .tuple #[.agg #[.int .i64 0, .int .i64 0], .int .i64 2]) (by simp [results, Tryz.results14, go_sem, r0, r1]) rfl ⟨rfl, (HB1.out.setCell (by simp) _).setCell (by simp) _⟩
end Go.Proofs.YtocladhggcaokaaGreatDoor
