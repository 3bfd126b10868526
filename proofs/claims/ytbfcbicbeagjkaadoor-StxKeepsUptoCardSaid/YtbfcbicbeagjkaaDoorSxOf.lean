/- slices.Clone of ints; stx.wear; stx.piece and stx.Of of a Symbol; law10's answers. -/
import Derived.Test.YtbfcbicbeagjkaaDoorWpSnd
import Derived.Test.YtbfcbicbeagjkaaDoorOrdV
import Derived.Test.YtbfcbicbeagjkaaDoorSxBare
namespace Go.Proofs.YtbfcbicbeagjkaaDoor
open Go.RowKit

set_option maxRecDepth 100000 in
set_option maxHeartbeats 1000000 in
theorem scli_any (lv : Value) (n : Nat) (us : List Value) (w : World) (hr : RowV w lv n 1 us) (h1 : ∀ u ∈ us, u.oneCell' = true) (hl : n ≤ 2000000) :
    Calls Tryd.prog 31 #[lv] w fun e w' => ∃ v', e = .returned v' ∧ w'.ownsRow w.heap.size 3 1 v' n us ∧ Below w.heap.size w w' := by
  obtain ⟨i0, hi, hz0, hz1, hz2⟩ := info_parts infoS8
  have q22 : ∀ (w : World) (a : Option Addr) (n c n' c' : Nat), (binOp .eql 26 (.slice a n c) (.slice none n' c')).run Tryd.prog w = .ok (.bool a.isNone) w := fun w a n c n' c' => Lib.run_eql_slice_nil w _ _ a n c n' c' Tryd.underlying26
  have HR := Lib.hid hr
  obtain ⟨hlen, _, ao, cap, rfl, _, hcase⟩ := hr
  cases ao with
  | none =>
    obtain ⟨rfl, rfl⟩ : n = 0 ∧ cap = 0 := by
      rcases hcase with ⟨h2, h3⟩ | ⟨_, _, h2, _⟩
      · exact ⟨h2, h3 rfl⟩
      · cases h2
    obtain rfl : us = [] := List.eq_nil_of_length_eq_zero (by simpa using hlen)
    clear hcase hlen
    go_enter Tryd.func31, Tryd.ntmps31
    go_wp2_with fail
    go_ret
    exact ⟨_, rfl, World.ownsRow_nil _ _ _ _, Below.refl _ _⟩
  | some ad =>
    clear hcase hlen
    go_enter Tryd.func31, Tryd.ntmps31
    go_wp2_with (at_builtin; (refine wpList_append_row _ rfl _ _ 26 rfl w.heap.size 3 i0 _ 1 8 Tryd.underlying26 hi hz0 hz1 hz2 rfl (by decide) _ 0 [] rfl (emp_row w 3) _ n us rfl (HR.out.below (below1 w _)) h1 (by unfold maxLen; omega) (by omega) (by simp) ?_); intro v' w1 hown1 hgrow hmv; rw [Nat.zero_add, List.nil_append] at hown1; have HO := Lib.hid hown1; have HG := Lib.hid hgrow; clear hown1 hgrow hmv)
    go_ret
    exact ⟨_, rfl, HO.out, (below1 w _).grown HG.out (by simp) (fun q hq => by cases hq; exact Nat.le_refl _)⟩
theorem icsone (l : List Int) : ∀ u ∈ ics .i64 l, u.oneCell' = true := by intro u hu; obtain ⟨_, _, rfl⟩ := List.mem_map.1 hu; rfl
/-- A row of ints somewhere. -/
def isRw (B : Nat) (ms : List Int) : Value → World → Prop := fun v W => ∃ o c, v = .slice o ms.length c ∧ W.ownsRow B 3 1 (.slice o ms.length c) ms.length (ics .i64 ms)
theorem isRw.below {B : Nat} {ms : List Int} {v : Value} {w w' : World} (h : isRw B ms v w) (hb : Below w.heap.size w w') : isRw B ms v w' := by
  obtain ⟨o, c, h1, h2⟩ := h
  exact ⟨o, c, h1, ownsRow_keep h2 (Keeps.of_below (P := fun _ => True) hb) fun _ _ => trivial⟩
theorem isRw_of {ms : List Int} {v : Value} {w : World} {B : Nat} (h : w.ownsRow B 3 1 v ms.length (ics .i64 ms)) : isRw B ms v w := by
  obtain ⟨o, c, rfl⟩ := own_dslice h
  exact ⟨o, c, rfl, h⟩
def put8w (W : World) (g : Nat) (b0 b1 b2 b3 b4 b5 b6 b7 : Value) : World := (((((((W.setCell ⟨g, 0, none⟩ b0).setCell ⟨g, 1, none⟩ b1).setCell ⟨g, 2, none⟩ b2).setCell ⟨g, 3, none⟩ b3).setCell ⟨g, 4, none⟩ b4).setCell ⟨g, 5, none⟩ b5).setCell ⟨g, 6, none⟩ b6).setCell ⟨g, 7, none⟩ b7
theorem put8w_row {W : World} {g : Nat} {a0 a1 a2 a3 a4 a5 a6 a7 : Value} {e : TypeId} (h : W.heap[g]? = some (.cells #[a0, a1, a2, a3, a4, a5, a6, a7] e (0, 0))) (b0 b1 b2 b3 b4 b5 b6 b7 : Value) : (put8w W g b0 b1 b2 b3 b4 b5 b6 b7).heap[g]? = some (.cells #[b0, b1, b2, b3, b4, b5, b6, b7] e (0, 0)) :=
  (rowSet (rowSet (rowSet (rowSet (rowSet (rowSet (rowSet (rowSet h 0 b0) 1 b1) 2 b2) 3 b3) 4 b4) 5 b5) 6 b6) 7 b7).trans (by simp)
theorem put8w_keep (P : Nat → Prop) (W : World) (g : Nat) (hg : ¬ P g) (b0 b1 b2 b3 b4 b5 b6 b7 : Value) : Keeps P W (put8w W g b0 b1 b2 b3 b4 b5 b6 b7) :=
  ((((((((Keeps.refl P W).set (p := ⟨g, 0, none⟩) hg _).set (p := ⟨g, 1, none⟩) hg _).set (p := ⟨g, 2, none⟩) hg _).set (p := ⟨g, 3, none⟩) hg _).set (p := ⟨g, 4, none⟩) hg _).set (p := ⟨g, 5, none⟩) hg _).set (p := ⟨g, 6, none⟩) hg _).set (p := ⟨g, 7, none⟩) hg _
theorem put8w_below {B : Nat} {w W : World} (h : Below B w W) {g : Nat} (hg : B ≤ g) (b0 b1 b2 b3 b4 b5 b6 b7 : Value) : Below B w (put8w W g b0 b1 b2 b3 b4 b5 b6 b7) :=
  (((((((h.setCell (p := ⟨g, 0, none⟩) hg _).setCell (p := ⟨g, 1, none⟩) hg _).setCell (p := ⟨g, 2, none⟩) hg _).setCell (p := ⟨g, 3, none⟩) hg _).setCell (p := ⟨g, 4, none⟩) hg _).setCell (p := ⟨g, 5, none⟩) hg _).setCell (p := ⟨g, 6, none⟩) hg _).setCell (p := ⟨g, 7, none⟩) hg _

/-- What wear leaves. -/
def WearP (g : Nat) (a0 a1 a2 a3 a4 a5 mv sv : Value) (w : World) (e : Ending) (w' : World) : Prop :=
  e = .returned (.tuple #[]) ∧ w'.heap[g]? = some (.cells #[a0, a1, a2, a3, a4, a5, mv, sv] 28 (0, 0)) ∧ Keeps (fun b => b ≠ g) w w' ∧ ∀ B, B ≤ g → B ≤ w.heap.size → Below B w w'
set_option maxRecDepth 100000 in
set_option maxHeartbeats 4000000 in
/-- stx.wear. -/
theorem wear_any (g : Nat) (a0 a1 a2 a3 a4 a5 a6 a7 : Value) (mo : Option Addr) (mn mc : Nat) (so : Option Addr) (sn sc : Nat) (w : World) (h : w.heap[g]? = some (.cells #[a0, a1, a2, a3, a4, a5, a6, a7] 28 (0, 0))) :
    Calls Tryd.prog 20 #[.pointer (some ⟨g, 0, none⟩), .agg #[.slice mo mn mc, .slice so sn sc]] w (WearP g a0 a1 a2 a3 a4 a5 (.slice mo mn mc) (.slice so sn sc) w) := by
  have hlt := (Array.getElem?_eq_some_iff.1 h).1
  have hb1 := below1 w (.cells #[.slice mo mn mc, .slice so sn sc] 30)
  have hx1 := heap_alloc_new w (.cells #[.slice mo mn mc, .slice so sn sc] 30)
  have hs1 : (w.alloc (.cells #[.slice mo mn mc, .slice so sn sc] 30)).heap.size = w.heap.size + 1 := by simp
  have hgg := (hb1.block g hlt).trans h
  clear h
  go_enter Tryd.func20, Tryd.ntmps20
  go_upto_region 1 with fail
  generalize w.alloc (.cells #[.slice mo mn mc, .slice so sn sc] 30) = w1 at *
  have HB1 := Lib.hid hb1
  have HX1 := Lib.hid hx1
  have HG1 := Lib.hid hgg
  have HWX : Hid (w.heap.size < w1.heap.size ∧ w.heap.size ≠ g) := Lib.hid ⟨by omega, by omega⟩
  clear hb1 hx1 hs1 hgg hlt
  refine wp_region_vals (fun L vals W => AllV [some (.pointer (some ⟨g, 0, none⟩)), some (.pointer (some ⟨g, 0, none⟩)), some (.pointer (some ⟨w.heap.size, 0, none⟩)), some (.slice mo mn mc), some (.pointer (some ⟨w.heap.size, 1, none⟩)), some (.slice so sn sc), some (.pointer (some ⟨g, 0, none⟩)), some (.pointer (some ⟨g, 6, none⟩)), none, some (.pointer (some ⟨g, 0, none⟩)), some (.pointer (some ⟨g, 7, none⟩)), none] L vals ∧ ∃ m s, W.heap[g]? = some (.cells #[a0, a1, a2, a3, a4, a5, m, s] 28 (0, 0)) ∧ (L 8 = true → m = .slice mo mn mc) ∧ (L 11 = true → s = .slice so sn sc) ∧ Keeps (fun b => b ≠ g) w1 W ∧ ∀ B, B ≤ g → B ≤ w1.heap.size → Below B w1 W) (by kernel_rfl) ?_ (by kernel_rfl) (by kernel_rfl) ?_ ?_
  · exact ⟨AllV.start _ _, _, _, HG1.out, fun h => (by cases h), fun h => (by cases h), Keeps.of_below (Below.refl w1.heap.size w1).drew, fun B h1 h2 => (Below.refl B w1).drew⟩
  · refine AllOps.cons ?_ ?_
    · intro L vals aa W hC hB hL hD hdep
      obtain ⟨hV, m, s, hg, h8, h11, hk, hb⟩ := hC
      refine .inl ⟨rfl, ?_⟩
      have b0 : aa.tmps.getD 0 undef = .pointer (some ⟨g, 0, none⟩) := hB.off 0 (by kernel_rfl)
      refine goesV_value (v := .pointer (some ⟨g, 0, none⟩)) ?_ ⟨hV.fix rfl, m, s, hg, fun h => h8 (by rwa [updL_ne (by decide)] at h), fun h => h11 (by rwa [updL_ne (by decide)] at h), hk, hb⟩
      simp only [execOp, Act.eval, b0]
      go_simp
    refine AllOps.cons ?_ ?_
    · intro L vals aa W hC hB hL hD hdep
      obtain ⟨hV, m, s, hg, h8, h11, hk, hb⟩ := hC
      refine .inl ⟨rfl, ?_⟩
      have b0 : aa.tmps.getD 0 undef = .pointer (some ⟨g, 0, none⟩) := hB.off 0 (by kernel_rfl)
      refine goesV_value (v := .pointer (some ⟨g, 0, none⟩)) ?_ ⟨hV.fix rfl, m, s, hg, fun h => h8 (by rwa [updL_ne (by decide)] at h), fun h => h11 (by rwa [updL_ne (by decide)] at h), hk, hb⟩
      simp only [execOp, Act.eval, b0]
      go_simp
    refine AllOps.cons ?_ ?_
    · intro L vals aa W hC hB hL hD hdep
      obtain ⟨hV, m, s, hg, h8, h11, hk, hb⟩ := hC
      refine .inl ⟨rfl, ?_⟩
      have b0 : aa.tmps.getD 3 undef = .pointer (some ⟨w.heap.size, 0, none⟩) := hB.off 3 (by kernel_rfl)
      refine goesV_value (v := .pointer (some ⟨w.heap.size, 0, none⟩)) ?_ ⟨hV.fix rfl, m, s, hg, fun h => h8 (by rwa [updL_ne (by decide)] at h), fun h => h11 (by rwa [updL_ne (by decide)] at h), hk, hb⟩
      simp only [execOp, Act.eval, b0]
      go_simp
    refine AllOps.cons ?_ ?_
    · intro L vals aa W hC hB hL hD hdep
      obtain ⟨hV, m, s, hg, h8, h11, hk, hb⟩ := hC
      refine .inl ⟨rfl, ?_⟩
      have e0 : aa.tmps.getD 6 undef = .pointer (some ⟨w.heap.size, 0, none⟩) := hV.at (j := 2) rfl (hdep 2 6 (by kernel_rfl))
      obtain ⟨c0, c1, _, _⟩ := rowp2d ((hk.2 w.heap.size HWX.out.1 HWX.out.2).trans HX1.out)
      refine goesV_value (v := .slice mo mn mc) ?_ ⟨hV.fix rfl, m, s, hg, fun h => h8 (by rwa [updL_ne (by decide)] at h), fun h => h11 (by rwa [updL_ne (by decide)] at h), hk, hb⟩
      simp only [execOp, Act.eval, e0]
      go_simp
    refine AllOps.cons ?_ ?_
    · intro L vals aa W hC hB hL hD hdep
      obtain ⟨hV, m, s, hg, h8, h11, hk, hb⟩ := hC
      refine .inl ⟨rfl, ?_⟩
      have b0 : aa.tmps.getD 3 undef = .pointer (some ⟨w.heap.size, 0, none⟩) := hB.off 3 (by kernel_rfl)
      refine goesV_value (v := .pointer (some ⟨w.heap.size, 1, none⟩)) ?_ ⟨hV.fix rfl, m, s, hg, fun h => h8 (by rwa [updL_ne (by decide)] at h), fun h => h11 (by rwa [updL_ne (by decide)] at h), hk, hb⟩
      simp only [execOp, Act.eval, b0]
      go_simp
    refine AllOps.cons ?_ ?_
    · intro L vals aa W hC hB hL hD hdep
      obtain ⟨hV, m, s, hg, h8, h11, hk, hb⟩ := hC
      refine .inl ⟨rfl, ?_⟩
      have e0 : aa.tmps.getD 8 undef = .pointer (some ⟨w.heap.size, 1, none⟩) := hV.at (j := 4) rfl (hdep 4 8 (by kernel_rfl))
      obtain ⟨c0, c1, _, _⟩ := rowp2d ((hk.2 w.heap.size HWX.out.1 HWX.out.2).trans HX1.out)
      refine goesV_value (v := .slice so sn sc) ?_ ⟨hV.fix rfl, m, s, hg, fun h => h8 (by rwa [updL_ne (by decide)] at h), fun h => h11 (by rwa [updL_ne (by decide)] at h), hk, hb⟩
      simp only [execOp, Act.eval, e0]
      go_simp
    refine AllOps.cons ?_ ?_
    · intro L vals aa W hC hB hL hD hdep
      obtain ⟨hV, m, s, hg, h8, h11, hk, hb⟩ := hC
      refine .inl ⟨rfl, ?_⟩
      have e0 : aa.tmps.getD 4 undef = .pointer (some ⟨g, 0, none⟩) := hV.at (j := 0) rfl (hdep 0 4 (by kernel_rfl))
      refine goesV_value (v := .pointer (some ⟨g, 0, none⟩)) ?_ ⟨hV.fix rfl, m, s, hg, fun h => h8 (by rwa [updL_ne (by decide)] at h), fun h => h11 (by rwa [updL_ne (by decide)] at h), hk, hb⟩
      simp only [execOp, Act.eval, e0]
      go_simp
    refine AllOps.cons ?_ ?_
    · intro L vals aa W hC hB hL hD hdep
      obtain ⟨hV, m, s, hg, h8, h11, hk, hb⟩ := hC
      refine .inl ⟨rfl, ?_⟩
      have e0 : aa.tmps.getD 10 undef = .pointer (some ⟨g, 0, none⟩) := hV.at (j := 6) rfl (hdep 6 10 (by kernel_rfl))
      refine goesV_value (v := .pointer (some ⟨g, 6, none⟩)) ?_ ⟨hV.fix rfl, m, s, hg, fun h => h8 (by rwa [updL_ne (by decide)] at h), fun h => h11 (by rwa [updL_ne (by decide)] at h), hk, hb⟩
      simp only [execOp, Act.eval, e0]
      go_simp
    refine AllOps.cons ?_ ?_
    · intro L vals aa W hC hB hL hD hdep
      obtain ⟨hV, m, s, hg, h8, h11, hk, hb⟩ := hC
      refine .inl ⟨rfl, ?_⟩
      have e0 : aa.tmps.getD 11 undef = .pointer (some ⟨g, 6, none⟩) := hV.at (j := 7) rfl (hdep 7 11 (by kernel_rfl))
      have e1 : aa.tmps.getD 7 undef = .slice mo mn mc := hV.at (j := 3) rfl (hdep 3 7 (by kernel_rfl))
      obtain ⟨c0, c1, c2, c3, c4, c5, c6, c7⟩ := rowS8 hg
      have z := frozen_heap hg 6
      refine goesV_skip (w1 := W.setCell ⟨g, 6, none⟩ (.slice mo mn mc)) ?_ ⟨hV.free rfl, (.slice mo mn mc), s, (rowSet hg 6 _).trans (by simp), fun _ => rfl, fun h => h11 (by rwa [updL_ne (by decide)] at h), hk.set (by simp) _, fun B h1 h2 => (hb B h1 h2).setCell h1 _⟩
      simp only [execOp, Act.eval, e0, e1]
      go_simp
    refine AllOps.cons ?_ ?_
    · intro L vals aa W hC hB hL hD hdep
      obtain ⟨hV, m, s, hg, h8, h11, hk, hb⟩ := hC
      refine .inl ⟨rfl, ?_⟩
      have e0 : aa.tmps.getD 5 undef = .pointer (some ⟨g, 0, none⟩) := hV.at (j := 1) rfl (hdep 1 5 (by kernel_rfl))
      refine goesV_value (v := .pointer (some ⟨g, 0, none⟩)) ?_ ⟨hV.fix rfl, m, s, hg, fun h => h8 (by rwa [updL_ne (by decide)] at h), fun h => h11 (by rwa [updL_ne (by decide)] at h), hk, hb⟩
      simp only [execOp, Act.eval, e0]
      go_simp
    refine AllOps.cons ?_ ?_
    · intro L vals aa W hC hB hL hD hdep
      obtain ⟨hV, m, s, hg, h8, h11, hk, hb⟩ := hC
      refine .inl ⟨rfl, ?_⟩
      have e0 : aa.tmps.getD 12 undef = .pointer (some ⟨g, 0, none⟩) := hV.at (j := 9) rfl (hdep 9 12 (by kernel_rfl))
      refine goesV_value (v := .pointer (some ⟨g, 7, none⟩)) ?_ ⟨hV.fix rfl, m, s, hg, fun h => h8 (by rwa [updL_ne (by decide)] at h), fun h => h11 (by rwa [updL_ne (by decide)] at h), hk, hb⟩
      simp only [execOp, Act.eval, e0]
      go_simp
    refine AllOps.cons ?_ ?_
    · intro L vals aa W hC hB hL hD hdep
      obtain ⟨hV, m, s, hg, h8, h11, hk, hb⟩ := hC
      refine .inl ⟨rfl, ?_⟩
      have e0 : aa.tmps.getD 13 undef = .pointer (some ⟨g, 7, none⟩) := hV.at (j := 10) rfl (hdep 10 13 (by kernel_rfl))
      have e1 : aa.tmps.getD 9 undef = .slice so sn sc := hV.at (j := 5) rfl (hdep 5 9 (by kernel_rfl))
      obtain ⟨c0, c1, c2, c3, c4, c5, c6, c7⟩ := rowS8 hg
      have z := frozen_heap hg 7
      refine goesV_skip (w1 := W.setCell ⟨g, 7, none⟩ (.slice so sn sc)) ?_ ⟨hV.free rfl, m, (.slice so sn sc), (rowSet hg 7 _).trans (by simp), fun h => h8 (by rwa [updL_ne (by decide)] at h), fun _ => rfl, hk.set (by simp) _, fun B h1 h2 => (hb B h1 h2).setCell h1 _⟩
      simp only [execOp, Act.eval, e0, e1]
      go_simp
    exact trivial
  · intro L vals aa w8 hC hLL hB hall
    obtain ⟨hV, m, s, hg, h8, h11, hk, hb⟩ := hC
    obtain rfl := h8 (hLL 8 (Nat.le_of_ble_eq_true rfl))
    obtain rfl := h11 (hLL 11 (Nat.le_of_ble_eq_true rfl))
    have hv : ∀ p ∈ [((4 : Nat), (.pointer (some ⟨g, 0, none⟩) : Value)), ((5 : Nat), (.pointer (some ⟨g, 0, none⟩) : Value)), ((6 : Nat), (.pointer (some ⟨w.heap.size, 0, none⟩) : Value)), ((7 : Nat), (.slice mo mn mc : Value)), ((8 : Nat), (.pointer (some ⟨w.heap.size, 1, none⟩) : Value)), ((9 : Nat), (.slice so sn sc : Value)), ((10 : Nat), (.pointer (some ⟨g, 0, none⟩) : Value)), ((11 : Nat), (.pointer (some ⟨g, 6, none⟩) : Value)), ((12 : Nat), (.pointer (some ⟨g, 0, none⟩) : Value)), ((13 : Nat), (.pointer (some ⟨g, 7, none⟩) : Value))], aa.tmps.getD p.1 undef = p.2 := by
      intro p hp
      simp only [List.mem_cons, List.not_mem_nil, or_false] at hp
      rcases hp with rfl | rfl | rfl | rfl | rfl | rfl | rfl | rfl | rfl | rfl
      · exact (hall 0 _ rfl _ rfl).trans (hV 0 _ rfl (hLL 0 (Nat.le_of_ble_eq_true rfl)))
      · exact (hall 1 _ rfl _ rfl).trans (hV 1 _ rfl (hLL 1 (Nat.le_of_ble_eq_true rfl)))
      · exact (hall 2 _ rfl _ rfl).trans (hV 2 _ rfl (hLL 2 (Nat.le_of_ble_eq_true rfl)))
      · exact (hall 3 _ rfl _ rfl).trans (hV 3 _ rfl (hLL 3 (Nat.le_of_ble_eq_true rfl)))
      · exact (hall 4 _ rfl _ rfl).trans (hV 4 _ rfl (hLL 4 (Nat.le_of_ble_eq_true rfl)))
      · exact (hall 5 _ rfl _ rfl).trans (hV 5 _ rfl (hLL 5 (Nat.le_of_ble_eq_true rfl)))
      · exact (hall 6 _ rfl _ rfl).trans (hV 6 _ rfl (hLL 6 (Nat.le_of_ble_eq_true rfl)))
      · exact (hall 7 _ rfl _ rfl).trans (hV 7 _ rfl (hLL 7 (Nat.le_of_ble_eq_true rfl)))
      · exact (hall 9 _ rfl _ rfl).trans (hV 9 _ rfl (hLL 9 (Nat.le_of_ble_eq_true rfl)))
      · exact (hall 10 _ rfl _ rfl).trans (hV 10 _ rfl (hLL 10 (Nat.le_of_ble_eq_true rfl)))
    have hact := act_fold _ hB hv (by kernel_rfl)
    subst hact
    have HFN := Lib.hid (And.intro hg (And.intro hk hb))
    clear hv hall hB hV hLL h8 h11 hg hk hb
    go_end0
    exact ⟨rfl, HFN.out.1, ⟨Nat.le_trans HB1.out.size HFN.out.2.1.1, fun b hb hne => (HFN.out.2.1.2 b (Nat.lt_of_lt_of_le hb HB1.out.size) hne).trans (HB1.out.block b hb)⟩, fun B h1 h2 => (HB1.out.mono h2).trans (HFN.out.2.2 B h1 (Nat.le_trans h2 HB1.out.size))⟩

/-- A row of nothing lies wherever it lay. -/
theorem rowz {w w' : World} {v : Value} {P : Nat → Prop} (h : RowV w v 0 1 []) (hk : Keeps P w w') : RowV w' v 0 1 [] := by
  obtain ⟨h1, h2, ao, cap, h3, h4, h5⟩ := h
  refine ⟨h1, h2, ao, cap, h3, h4, ?_⟩
  rcases h5 with h5 | ⟨b, off, h5, h6, h7⟩
  · exact .inl h5
  · exact .inr ⟨b, off, h5, Nat.lt_of_lt_of_le h6 hk.1, fun j u hu => by simp at hu⟩
def isPc (B : Nat) : Value → World → Prop := fun v W => ∃ o c, v = .agg #[.int .i64 4, .string ⟨#[97]⟩, .bool false, .slice o 0 c, .slice none 0 0, .int .i64 0, .slice none 0 0, .slice none 0 0] ∧ W.ownsRow B 55 1 (.slice o 0 c) 0 []
theorem isPc_stays (B : Nat) : Stays (isPc B) := fun _ _ _ hb ⟨o, c, h1, h2⟩ => ⟨o, c, h1, isOwn1_stays _ _ _ _ _ _ _ hb h2⟩
def isBoxS (B : Nat) : Value → World → Prop := fun v W => ∃ g, v = .pointer (some ⟨g, 0, none⟩) ∧ B ≤ g ∧ W.heap[g]? = some (.cells #[.int .i64 0, .string ⟨#[]⟩, .bool false, .slice none 0 0, .slice none 0 0, .int .i64 0, .slice none 0 0, .slice none 0 0] 28 (0, 0))
theorem isBoxS_stays (B : Nat) : Stays (isBoxS B) := fun _ _ _ hb ⟨g, h1, h2, h3⟩ => ⟨g, h1, h2, (hb.block g (Array.getElem?_eq_some_iff.1 h3).1).trans h3⟩
/-- What piece answers of a Symbol. -/
def PcP (w : World) (e : Ending) (w' : World) : Prop := ∃ lo lc, e = .returned (.agg #[.int .i64 4, .string ⟨#[97]⟩, .bool false, .slice lo 0 lc, .slice none 0 0, .int .i64 0, .slice none 0 0, .slice none 0 0]) ∧ RowV w' (.slice lo 0 lc) 0 1 [] ∧ Below w.heap.size w w'
set_option maxRecDepth 100000 in
set_option maxHeartbeats 4000000 in
/-- stx.piece of a Symbol. -/
theorem piece_leaf (w : World) : Calls Tryd.prog 30 #[.agg #[.int .i64 4, .string ⟨#[97]⟩, .bool false, .slice none 0 0, .slice none 0 0, .int .i64 0]] w (PcP w) := by
  have hb1 := below2 w (.cells #[.int .i64 4, .string ⟨#[97]⟩, .bool false, .slice none 0 0, .slice none 0 0, .int .i64 0] 40) (.cells #[.int .i64 0, .string ⟨#[]⟩, .bool false, .slice none 0 0, .slice none 0 0, .int .i64 0, .slice none 0 0, .slice none 0 0] 28)
  have hn1 := @newsd2 w (.cells #[.int .i64 4, .string ⟨#[97]⟩, .bool false, .slice none 0 0, .slice none 0 0, .int .i64 0] 40) (.cells #[.int .i64 0, .string ⟨#[]⟩, .bool false, .slice none 0 0, .slice none 0 0, .int .i64 0, .slice none 0 0, .slice none 0 0] 28)
  go_enter Tryd.func30, Tryd.ntmps30
  go_upto_region 1 with fail
  generalize (w.alloc (.cells #[.int .i64 4, .string ⟨#[97]⟩, .bool false, .slice none 0 0, .slice none 0 0, .int .i64 0] 40)).alloc (.cells #[.int .i64 0, .string ⟨#[]⟩, .bool false, .slice none 0 0, .slice none 0 0, .int .i64 0, .slice none 0 0, .slice none 0 0] 28) = W1 at *
  have HB1 := Lib.hid hb1
  have HX := Lib.hid hn1.1
  have HZ := Lib.hid hn1.2
  have HLT := Lib.hid (Array.getElem?_eq_some_iff.1 hn1.1).1
  have HLZ := Lib.hid (Array.getElem?_eq_some_iff.1 hn1.2).1
  clear hb1 hn1
  refine wp_region_late 12 11 10 3 16 (psi [isV (.pointer (some ⟨w.heap.size, 0, none⟩)), isV (.int .i64 4), isV (.pointer (some ⟨w.heap.size, 1, none⟩)), isV (.string ⟨#[97]⟩), isV (.string ⟨#[97]⟩), isV (.pointer (some ⟨w.heap.size, 2, none⟩)), isV (.agg #[.bool false, .slice none 0 0]), isNum false W1.heap.size 0 [], isV (.pointer (some ⟨w.heap.size, 5, none⟩)), isV (.int .i64 0), isPc W1.heap.size, isBoxS W1.heap.size, nothing]) (fun W => Below W1.heap.size W1 W) (fun p v W0 W' => ∃ g a0 a1 a2 a3 a4 a5 a6 a7, p = .pointer (some ⟨g, 0, none⟩) ∧ v = .agg #[a0, a1, a2, a3, a4, a5, a6, a7] ∧ W' = put8w W0 g a0 a1 a2 a3 a4 a5 a6 a7) (by kernel_rfl) (Below.refl _ _).drew (psi_mono ?_) (by kernel_rfl) (by kernel_rfl) (by kernel_rfl) ?_ ?_
  · intro pq hp
    simp only [List.mem_cons, List.not_mem_nil, or_false] at hp
    (repeat' rcases hp with rfl | hp) <;> first | exact isV_stays _ | exact nothing_stays | (subst hp; first | exact isV_stays _ | exact nothing_stays) | exact isBoxS_stays _ | exact isNum_stays _ _ _ _ | exact isPc_stays _ | (subst hp; exact isBoxS_stays _) | (subst hp; exact isNum_stays _ _ _ _) | (subst hp; exact isPc_stays _)
  · refine AllOps.cons ?_ ?_
    · refine OpL.early (by kernel_rfl) (by kernel_rfl) fun ab W hC hB hdep => ?_
      refine .inl ⟨rfl, ?_⟩
      have b0 : ab.tmps.getD 1 undef = .pointer (some ⟨w.heap.size, 0, none⟩) := hB.off 1 (by kernel_rfl)
      clear hB hdep
      refine goes_value (v := .pointer (some ⟨w.heap.size, 0, none⟩)) ?_ hC rfl
      simp only [execOp, Act.eval, b0]
      go_simp
    refine AllOps.cons ?_ ?_
    · refine OpL.early (by kernel_rfl) (by kernel_rfl) fun ab W hC hB hdep => ?_
      refine .inl ⟨rfl, ?_⟩
      obtain ⟨x0, (q0 : (isV (.pointer (some ⟨w.heap.size, 0, none⟩))) x0 W), e0⟩ := hdep 0 6 (by kernel_rfl)
      obtain rfl : x0 = .pointer (some ⟨w.heap.size, 0, none⟩) := q0
      obtain ⟨c0, c1, c2, c3, c4, c5⟩ := row6d ((hC.block _ HLT.out).trans HX.out)
      clear hB hdep
      refine goes_value (v := .int .i64 4) ?_ hC rfl
      simp only [execOp, Act.eval, e0]
      go_simp
    refine AllOps.cons ?_ ?_
    · refine OpL.early (by kernel_rfl) (by kernel_rfl) fun ab W hC hB hdep => ?_
      refine .inl ⟨rfl, ?_⟩
      have b0 : ab.tmps.getD 1 undef = .pointer (some ⟨w.heap.size, 0, none⟩) := hB.off 1 (by kernel_rfl)
      clear hB hdep
      refine goes_value (v := .pointer (some ⟨w.heap.size, 1, none⟩)) ?_ hC rfl
      simp only [execOp, Act.eval, b0]
      go_simp
    refine AllOps.cons ?_ ?_
    · refine OpL.early (by kernel_rfl) (by kernel_rfl) fun ab W hC hB hdep => ?_
      refine .inl ⟨rfl, ?_⟩
      obtain ⟨x0, (q0 : (isV (.pointer (some ⟨w.heap.size, 1, none⟩))) x0 W), e0⟩ := hdep 2 8 (by kernel_rfl)
      obtain rfl : x0 = .pointer (some ⟨w.heap.size, 1, none⟩) := q0
      obtain ⟨c0, c1, c2, c3, c4, c5⟩ := row6d ((hC.block _ HLT.out).trans HX.out)
      clear hB hdep
      refine goes_value (v := .string ⟨#[97]⟩) ?_ hC rfl
      simp only [execOp, Act.eval, e0]
      go_simp
    refine AllOps.cons ?_ ?_
    · refine OpL.early (by kernel_rfl) (by kernel_rfl) fun ab W hC hB hdep => ?_
      refine .inl ⟨rfl, ?_⟩
      obtain ⟨x0, (q0 : (isV (.string ⟨#[97]⟩)) x0 W), e0⟩ := hdep 3 9 (by kernel_rfl)
      obtain rfl : x0 = .string ⟨#[97]⟩ := q0
      clear hB hdep
      refine goes_call (f := 40) (args := #[.string ⟨#[97]⟩]) ?_ ?_
      · simp only [execOp]
        go_simp
      · exact (sclone_any ⟨#[97]⟩ W (by decide)).mono fun e w7 ⟨he, hb⟩ => ⟨_, he, hC.trans (hb.mono hC.size), hb, rfl⟩
    refine AllOps.cons ?_ ?_
    · refine OpL.early (by kernel_rfl) (by kernel_rfl) fun ab W hC hB hdep => ?_
      refine .inl ⟨rfl, ?_⟩
      have b0 : ab.tmps.getD 1 undef = .pointer (some ⟨w.heap.size, 0, none⟩) := hB.off 1 (by kernel_rfl)
      clear hB hdep
      refine goes_value (v := .pointer (some ⟨w.heap.size, 2, none⟩)) ?_ hC rfl
      simp only [execOp, Act.eval, b0]
      go_simp
    refine AllOps.cons ?_ ?_
    · refine OpL.early (by kernel_rfl) (by kernel_rfl) fun ab W hC hB hdep => ?_
      refine .inl ⟨rfl, ?_⟩
      obtain ⟨x0, (q0 : (isV (.pointer (some ⟨w.heap.size, 2, none⟩))) x0 W), e0⟩ := hdep 5 11 (by kernel_rfl)
      obtain rfl : x0 = .pointer (some ⟨w.heap.size, 2, none⟩) := q0
      obtain ⟨c0, c1, c2, c3, c4, c5⟩ := row6d ((hC.block _ HLT.out).trans HX.out)
      clear hB hdep
      refine goes_value (v := .agg #[.bool false, .slice none 0 0]) ?_ hC rfl
      simp only [execOp, Act.eval, e0]
      go_simp
    refine AllOps.cons ?_ ?_
    · refine OpL.early (by kernel_rfl) (by kernel_rfl) fun ab W hC hB hdep => ?_
      refine .inl ⟨rfl, ?_⟩
      obtain ⟨x0, (q0 : (isV (.agg #[.bool false, .slice none 0 0])) x0 W), e0⟩ := hdep 6 12 (by kernel_rfl)
      obtain rfl : x0 = .agg #[.bool false, .slice none 0 0] := q0
      clear hB hdep
      refine goes_call (f := 41) (args := #[.agg #[.bool false, .slice none 0 0]]) ?_ ?_
      · simp only [execOp]
        go_simp
      · exact (number_any false _ [] W (row_nil8 _ _) (by simp)).mono fun e w7 ⟨o7, c7, he, ho, hb⟩ => ⟨_, he, hC.trans (hb.mono hC.size), hb, o7, c7, rfl, ownsRow_base ho hC.size⟩
    refine AllOps.cons ?_ ?_
    · refine OpL.early (by kernel_rfl) (by kernel_rfl) fun ab W hC hB hdep => ?_
      refine .inl ⟨rfl, ?_⟩
      have b0 : ab.tmps.getD 1 undef = .pointer (some ⟨w.heap.size, 0, none⟩) := hB.off 1 (by kernel_rfl)
      clear hB hdep
      refine goes_value (v := .pointer (some ⟨w.heap.size, 5, none⟩)) ?_ hC rfl
      simp only [execOp, Act.eval, b0]
      go_simp
    refine AllOps.cons ?_ ?_
    · refine OpL.early (by kernel_rfl) (by kernel_rfl) fun ab W hC hB hdep => ?_
      refine .inl ⟨rfl, ?_⟩
      obtain ⟨x0, (q0 : (isV (.pointer (some ⟨w.heap.size, 5, none⟩))) x0 W), e0⟩ := hdep 8 14 (by kernel_rfl)
      obtain rfl : x0 = .pointer (some ⟨w.heap.size, 5, none⟩) := q0
      obtain ⟨c0, c1, c2, c3, c4, c5⟩ := row6d ((hC.block _ HLT.out).trans HX.out)
      clear hB hdep
      refine goes_value (v := .int .i64 0) ?_ hC rfl
      simp only [execOp, Act.eval, e0]
      go_simp
    refine AllOps.cons ?_ ?_
    · refine OpL.early (by kernel_rfl) (by kernel_rfl) fun ab W hC hB hdep => ?_
      refine .inl ⟨rfl, ?_⟩
      obtain ⟨x0, (q0 : (isV (.int .i64 4)) x0 W), e0⟩ := hdep 1 7 (by kernel_rfl)
      obtain rfl : x0 = .int .i64 4 := q0
      obtain ⟨x1, (q1 : (isV (.string ⟨#[97]⟩)) x1 W), e1⟩ := hdep 4 10 (by kernel_rfl)
      obtain rfl : x1 = .string ⟨#[97]⟩ := q1
      obtain ⟨x2, (q2 : (isNum false W1.heap.size 0 []) x2 W), e2⟩ := hdep 7 13 (by kernel_rfl)
      obtain ⟨uo2, uc2, rfl, hu2⟩ := q2
      obtain ⟨x3, (q3 : (isV (.int .i64 0)) x3 W), e3⟩ := hdep 9 15 (by kernel_rfl)
      obtain rfl : x3 = .int .i64 0 := q3
      clear hB hdep
      refine goes_value (v := .agg #[.int .i64 4, .string ⟨#[97]⟩, .bool false, .slice uo2 0 uc2, .slice none 0 0, .int .i64 0, .slice none 0 0, .slice none 0 0]) ?_ hC ⟨_, _, rfl, hu2⟩
      simp only [Array.getD_eq_getD_getElem?] at e0 e1 e2 e3
      simp only [execOp]
      go_simp
    refine AllOps.cons ?_ ?_
    · refine OpL.early (by kernel_rfl) (by kernel_rfl) fun ab W hC hB hdep => ?_
      refine .inl ⟨rfl, ?_⟩
      clear hB hdep
      refine goes_world (v := .pointer (some ⟨W.heap.size, 0, none⟩)) (w1 := W.alloc (.cells #[.int .i64 0, .string ⟨#[]⟩, .bool false, .slice none 0 0, .slice none 0 0, .int .i64 0, .slice none 0 0, .slice none 0 0] 28)) ?_ (hC.trans ((below1 W _).mono hC.size)) (below1 W _) ⟨_, rfl, hC.size, box1 W _ _⟩
      simp only [execOp]
      go_simp
    refine AllOps.cons ?_ ?_
    · refine OpL.write (by kernel_rfl) fun vals ab W hC hB hdep => ⟨rfl, ?_⟩
      obtain ⟨(q0 : (isBoxS W1.heap.size) (vals 11) W), e0⟩ := hdep 11 3 (by kernel_rfl)
      generalize vals 11 = x0 at *
      obtain ⟨g0, rfl, hg0, hz0⟩ := q0
      obtain ⟨(q1 : (isPc W1.heap.size) (vals 10) W), e1⟩ := hdep 10 16 (by kernel_rfl)
      generalize vals 10 = x1 at *
      obtain ⟨uo1, uc1, rfl, hu1⟩ := q1
      clear hB hdep
      have z0 := frozen_heap hz0 0
      have z1 := frozen_heap hz0 1
      have z2 := frozen_heap hz0 2
      have z3 := frozen_heap hz0 3
      have z4 := frozen_heap hz0 4
      have z5 := frozen_heap hz0 5
      have z6 := frozen_heap hz0 6
      have z7 := frozen_heap hz0 7
      obtain ⟨c0, c1, c2, c3, c4, c5, c6, c7⟩ := rowS8 hz0
      refine writes_skip (w1 := put8w W g0 (.int .i64 4) (.string ⟨#[97]⟩) (.bool false) (.slice uo1 0 uc1) (.slice none 0 0) (.int .i64 0) (.slice none 0 0) (.slice none 0 0)) ?_ ⟨_, _, _, _, _, _, _, _, _, rfl, rfl, rfl⟩
      unfold put8w
      simp only [execOp, Act.eval, e0, e1]
      go_simp
    exact trivial
  · intro vals aa W0 w8 hC hFin hB hall
    obtain ⟨(k0 : (isV (.pointer (some ⟨w.heap.size, 0, none⟩))) (vals 0) W0), e0⟩ := hall 0 _ rfl (by decide)
    obtain ⟨(k1 : (isV (.int .i64 4)) (vals 1) W0), e1⟩ := hall 1 _ rfl (by decide)
    obtain ⟨(k2 : (isV (.pointer (some ⟨w.heap.size, 1, none⟩))) (vals 2) W0), e2⟩ := hall 2 _ rfl (by decide)
    obtain ⟨(k3 : (isV (.string ⟨#[97]⟩)) (vals 3) W0), e3⟩ := hall 3 _ rfl (by decide)
    obtain ⟨(k4 : (isV (.string ⟨#[97]⟩)) (vals 4) W0), e4⟩ := hall 4 _ rfl (by decide)
    obtain ⟨(k5 : (isV (.pointer (some ⟨w.heap.size, 2, none⟩))) (vals 5) W0), e5⟩ := hall 5 _ rfl (by decide)
    obtain ⟨(k6 : (isV (.agg #[.bool false, .slice none 0 0])) (vals 6) W0), e6⟩ := hall 6 _ rfl (by decide)
    obtain ⟨(k7 : (isNum false W1.heap.size 0 []) (vals 7) W0), e7⟩ := hall 7 _ rfl (by decide)
    obtain ⟨(k8 : (isV (.pointer (some ⟨w.heap.size, 5, none⟩))) (vals 8) W0), e8⟩ := hall 8 _ rfl (by decide)
    obtain ⟨(k9 : (isV (.int .i64 0)) (vals 9) W0), e9⟩ := hall 9 _ rfl (by decide)
    obtain ⟨(k10 : (isPc W1.heap.size) (vals 10) W0), e10⟩ := hall 10 _ rfl (by decide)
    obtain ⟨(k11 : (isBoxS W1.heap.size) (vals 11) W0), e11⟩ := hall 11 _ rfl (by decide)
    have hv : ∀ pq ∈ [((6 : Nat), (.pointer (some ⟨w.heap.size, 0, none⟩) : Value)), ((7 : Nat), (.int .i64 4 : Value)), ((8 : Nat), (.pointer (some ⟨w.heap.size, 1, none⟩) : Value)), ((9 : Nat), (.string ⟨#[97]⟩ : Value)), ((10 : Nat), (.string ⟨#[97]⟩ : Value)), ((11 : Nat), (.pointer (some ⟨w.heap.size, 2, none⟩) : Value)), ((12 : Nat), (.agg #[.bool false, .slice none 0 0] : Value)), ((13 : Nat), (vals 7 : Value)), ((14 : Nat), (.pointer (some ⟨w.heap.size, 5, none⟩) : Value)), ((15 : Nat), (.int .i64 0 : Value)), ((16 : Nat), (vals 10 : Value)), ((3 : Nat), (vals 11 : Value))], aa.tmps.getD pq.1 undef = pq.2 := by
      intro pq hp
      simp only [List.mem_cons, List.not_mem_nil, or_false] at hp
      rcases hp with rfl | rfl | rfl | rfl | rfl | rfl | rfl | rfl | rfl | rfl | rfl | rfl
      · exact (e0 _ rfl).trans k0
      · exact (e1 _ rfl).trans k1
      · exact (e2 _ rfl).trans k2
      · exact (e3 _ rfl).trans k3
      · exact (e4 _ rfl).trans k4
      · exact (e5 _ rfl).trans k5
      · exact (e6 _ rfl).trans k6
      · exact e7 _ rfl
      · exact (e8 _ rfl).trans k8
      · exact (e9 _ rfl).trans k9
      · exact e10 _ rfl
      · exact e11 _ rfl
    have hact := act_fold _ hB hv (by kernel_rfl)
    subst hact
    clear hv hall hB e0 e1 e2 e3 e4 e5 e6 e7 e8 e9 e10 e11
    refine (‹∀ (a : Act) (w : World), Code.wp Tryd.prog _ _ a w → _›) _ _ ?_
    simp only [List.foldl, List.setIfInBounds_toArray, List.set_cons_succ, List.set_cons_zero]
    obtain ⟨g, a0, a1, a2, a3, a4, a5, a6, a7, hg, hag, rfl⟩ := hFin
    obtain ⟨g', hg', hge, hz⟩ := k11
    rw [hg] at hg'
    simp only [Value.pointer.injEq, Option.some.injEq, Addr.mk.injEq, and_true] at hg'
    subst hg'
    obtain ⟨lo, lc, hoc, how⟩ := k10
    rw [hag] at hoc
    simp only [Value.agg.injEq, Array.mk.injEq, List.cons.injEq, and_true] at hoc
    obtain ⟨rfl, rfl, rfl, rfl, rfl, rfl, rfl, rfl⟩ := hoc
    rw [hg]
    have hbx := put8w_row hz (.int .i64 4) (.string ⟨#[97]⟩) (.bool false) (.slice lo 0 lc) (.slice none 0 0) (.int .i64 0) (.slice none 0 0) (.slice none 0 0)
    have hkp := put8w_keep (fun b => b ≠ g) W0 g (by simp) (.int .i64 4) (.string ⟨#[97]⟩) (.bool false) (.slice lo 0 lc) (.slice none 0 0) (.int .i64 0) (.slice none 0 0) (.slice none 0 0)
    have hbl := put8w_below hC hge (.int .i64 4) (.string ⟨#[97]⟩) (.bool false) (.slice lo 0 lc) (.slice none 0 0) (.int .i64 0) (.slice none 0 0) (.slice none 0 0)
    have hlm := RowV.of_own (ownsRow_keep how hkp (own_farT how hz (by decide)))
    have HBX := Lib.hid hbx
    have HBL := Lib.hid hbl
    have HLM := Lib.hid hlm
    have HGE := Lib.hid hge
    clear hbx hkp hbl hlm hz hg hag how hge hC k0 k1 k2 k3 k4 k5 k6 k7 k8 k9
    generalize put8w W0 g (.int .i64 4) (.string ⟨#[97]⟩) (.bool false) (.slice lo 0 lc) (.slice none 0 0) (.int .i64 0) (.slice none 0 0) (.slice none 0 0) = W2 at *
    obtain ⟨c0, c1, c2, c3, c4, c5⟩ := row6d ((HBL.out.block _ HLT.out).trans HX.out)
    go_wp2_with fail
    refine wp_loop_rounds 1 ?_
    rw [rounds_succ]
    obtain ⟨d0, d1, d2, d3, d4, d5, d6, d7⟩ := rowS8 HBX.out
    have hzz := (HBL.out.block _ HLZ.out).trans HZ.out
    obtain ⟨e0, e1, e2, e3, e4, e5, e6, e7⟩ := rowS8 hzz
    have z0 := frozen_heap hzz 0
    have z1 := frozen_heap hzz 1
    have z2 := frozen_heap hzz 2
    have z3 := frozen_heap hzz 3
    have z4 := frozen_heap hzz 4
    have z5 := frozen_heap hzz 5
    have z6 := frozen_heap hzz 6
    have z7 := frozen_heap hzz 7
    have hrow := put8w_row hzz (.int .i64 4) (.string ⟨#[97]⟩) (.bool false) (.slice lo 0 lc) (.slice none 0 0) (.int .i64 0) (.slice none 0 0) (.slice none 0 0)
    have hbf := put8w_below (HB1.out.trans (HBL.out.mono HB1.out.size)) (show w.heap.size ≤ w.heap.size + 1 by omega) (.int .i64 4) (.string ⟨#[97]⟩) (.bool false) (.slice lo 0 lc) (.slice none 0 0) (.int .i64 0) (.slice none 0 0) (.slice none 0 0)
    have hkf := put8w_keep (fun b => b ≠ w.heap.size + 1) W2 (w.heap.size + 1) (by simp) (.int .i64 4) (.string ⟨#[97]⟩) (.bool false) (.slice lo 0 lc) (.slice none 0 0) (.int .i64 0) (.slice none 0 0) (.slice none 0 0)
    have HF := Lib.hid (And.intro hrow (And.intro hbf (rowz HLM.out hkf)))
    clear hrow hbf hkf hzz
    go_wp2_with fail
    clear c0 c1 c2 c3 c4 c5 d0 d1 d2 d3 d4 d5 d6 d7 e0 e1 e2 e3 e4 e5 e6 e7 z0 z1 z2 z3 z4 z5 z6 z7
    unfold put8w at HF
    generalize World.setCell _ ⟨w.heap.size + 1, 7, none⟩ (.slice none 0 0) = W9 at *
    obtain ⟨g0, g1, g2, g3, g4, g5, g6, g7⟩ := rowS8 HF.out.1
    refine bodyPost_ret (v := .agg #[.int .i64 4, .string ⟨#[97]⟩, .bool false, .slice lo 0 lc, .slice none 0 0, .int .i64 0, .slice none 0 0, .slice none 0 0]) (by simp [results, Tryd.results30, go_sem, g0, g1, g2, g3, g4, g5, g6, g7]) rfl ?_
    exact ⟨_, _, rfl, HF.out.2.2, HF.out.2.1⟩

/-- What Of answers of a Symbol. -/
def OfP (ms ss : List Int) (w : World) (e : Ending) (w' : World) : Prop := ∃ lo lc mv sv, e = .returned (.tuple #[.agg #[.int .i64 4, .string ⟨#[97]⟩, .bool false, .slice lo 0 lc, .slice none 0 0, .int .i64 0, mv, sv], .int .i64 0]) ∧ RowV w' (.slice lo 0 lc) 0 1 [] ∧ RowV w' mv ms.length 1 (ics .i64 ms) ∧ RowV w' sv ss.length 1 (ics .i64 ss) ∧ Below w.heap.size w w'
theorem lf_lay {w : World} : Lay w (.mk 4 [97] false [] [] 0) [.int .i64 4, .string ⟨#[97]⟩, .bool false, .slice none 0 0, .slice none 0 0, .int .i64 0] :=
  .mk (us := []) (by intro i; match i with | 0 => simp [limb] | i + 1 => simp [limb]) (by unfold maxLen; simp) (fun i => by unfold limb; simp) ⟨by simp [maxLen], none, 0, rfl, Nat.le_refl _, .inl ⟨rfl, fun _ => rfl⟩⟩ (row_nil8 _ _) fun i hi => by simp at hi
theorem lf_snd : (sndD (.mk 4 [97] false [] [] 0) && !othB (.mk 4 [97] false [] [] 0)) = true := by
  have h := idB_leaf (t := aB) aB_byt (show 97 ≤ 97 ∧ 97 ≤ 122 by omega) (a := 0) sndW_nil
  unfold idB sndX at h
  rw [dtm_mk, aB_byt] at h
  simp only [Bool.and_eq_true, List.map_nil] at h ⊢
  exact ⟨h.2.1, h.2.2.1⟩
set_option maxRecDepth 100000 in
set_option maxHeartbeats 8000000 in
/-- stx.Of of a Symbol. -/
theorem of_leaf (ms ss : List Int) (mo : Option Addr) (mc : Nat) (so : Option Addr) (sc : Nat) (w : World) (hm : RowV w (.slice mo ms.length mc) ms.length 1 (ics .i64 ms)) (hs : RowV w (.slice so ss.length sc) ss.length 1 (ics .i64 ss)) (hw : sndW ms ss = true) (ht : Tabs w) :
    Calls Tryd.prog 13 #[.agg #[.int .i64 4, .string ⟨#[97]⟩, .bool false, .slice none 0 0, .slice none 0 0, .int .i64 0], .agg #[.slice mo ms.length mc, .slice so ss.length sc]] w (OfP ms ss w) := by
  have HM := Lib.hid hm
  have HS := Lib.hid hs
  have HW := Lib.hid hw
  have HT := Lib.hid ht
  have HLN : Hid (ms.length ≤ 2000000 ∧ ss.length ≤ 2000000) := Lib.hid (by have := sndW_len hw; omega)
  clear hm hs hw ht
  have hb1 := below3 w (.cells #[.int .i64 4, .string ⟨#[97]⟩, .bool false, .slice none 0 0, .slice none 0 0, .int .i64 0] 40) (.cells #[.slice mo ms.length mc, .slice so ss.length sc] 30) (.cells #[.int .i64 0, .string ⟨#[]⟩, .bool false, .slice none 0 0, .slice none 0 0, .int .i64 0, .slice none 0 0, .slice none 0 0] 28)
  have hn1 := @newsp3d w (.cells #[.int .i64 4, .string ⟨#[97]⟩, .bool false, .slice none 0 0, .slice none 0 0, .int .i64 0] 40) (.cells #[.slice mo ms.length mc, .slice so ss.length sc] 30) (.cells #[.int .i64 0, .string ⟨#[]⟩, .bool false, .slice none 0 0, .slice none 0 0, .int .i64 0, .slice none 0 0, .slice none 0 0] 28)
  go_enter Tryd.func13, Tryd.ntmps13
  go_upto_region 1 with fail
  generalize ((w.alloc (.cells #[.int .i64 4, .string ⟨#[97]⟩, .bool false, .slice none 0 0, .slice none 0 0, .int .i64 0] 40)).alloc (.cells #[.slice mo ms.length mc, .slice so ss.length sc] 30)).alloc (.cells #[.int .i64 0, .string ⟨#[]⟩, .bool false, .slice none 0 0, .slice none 0 0, .int .i64 0, .slice none 0 0, .slice none 0 0] 28) = w1 at *
  have HB1 := Lib.hid hb1
  have HD1 := Lib.hid hn1.1
  have HW1 := Lib.hid hn1.2.1
  have HR1 := Lib.hid hn1.2.2
  clear hb1 hn1
  obtain ⟨c0, c1, c2, c3, c4, c5⟩ := row6d HD1.out
  go_wp2_with fail
  refine (may_any (.mk 4 [97] false [] [] 0) _ w1 lf_lay (.mk (by simp) (by simp) (by simp) fun i hi => by simp at hi) (HT.out.below HB1.out (Nat.le_refl _))).mono ?_
  rintro e w2 ⟨rfl, hb2⟩
  rw [lf_snd]
  have HB2 := Lib.hid (HB1.out.trans (hb2.mono HB1.out.size))
  have HD2 := Lib.hid ((hb2.block _ (Array.getElem?_eq_some_iff.1 HD1.out).1).trans HD1.out)
  have HW2 := Lib.hid ((hb2.block _ (Array.getElem?_eq_some_iff.1 HW1.out).1).trans HW1.out)
  have HR2 := Lib.hid ((hb2.block _ (Array.getElem?_eq_some_iff.1 HR1.out).1).trans HR1.out)
  clear hb2 c0 c1 c2 c3 c4 c5 HB1 HD1 HW1 HR1
  obtain ⟨c0, c1, _, _⟩ := rowp2d HW2.out
  go_wp2_with fail
  refine (wsound_any (.agg #[.slice mo ms.length mc, .slice so ss.length sc]) ms ss w2 ⟨_, _, rfl, HM.out.below HB2.out, HS.out.below HB2.out⟩).mono ?_
  rintro e w3 ⟨rfl, hb3⟩
  rw [HW.out]
  have HB3 := Lib.hid (HB2.out.trans (hb3.mono HB2.out.size))
  have HD3 := Lib.hid ((hb3.block _ (Array.getElem?_eq_some_iff.1 HD2.out).1).trans HD2.out)
  have HW3 := Lib.hid ((hb3.block _ (Array.getElem?_eq_some_iff.1 HW2.out).1).trans HW2.out)
  have HR3 := Lib.hid ((hb3.block _ (Array.getElem?_eq_some_iff.1 HR2.out).1).trans HR2.out)
  clear hb3 c0 c1 HB2 HD2 HW2 HR2
  obtain ⟨c0, c1, c2, c3, c4, c5⟩ := row6d HD3.out
  go_wp2_with fail
  refine (piece_leaf w3).mono ?_
  rintro e w3b ⟨lo, lc, rfl, hl, hb3⟩
  have ha := below1 w3b (.cells #[.int .i64 4, .string ⟨#[97]⟩, .bool false, .slice lo 0 lc, .slice none 0 0, .int .i64 0, .slice none 0 0, .slice none 0 0] 28)
  have hx := heap_alloc_new w3b (.cells #[.int .i64 4, .string ⟨#[97]⟩, .bool false, .slice lo 0 lc, .slice none 0 0, .int .i64 0, .slice none 0 0, .slice none 0 0] 28)
  have HXL0 : Hid (w.heap.size + 2 < w3b.heap.size ∧ w.heap.size + 1 < w3b.heap.size) := Lib.hid (by have := (Array.getElem?_eq_some_iff.1 HR3.out).1; have := hb3.size; omega)
  have hbb := hb3.trans (ha.mono hb3.size)
  have HB4 := Lib.hid (HB3.out.trans (hbb.mono HB3.out.size))
  have HW4 := Lib.hid ((hbb.block _ (Array.getElem?_eq_some_iff.1 HW3.out).1).trans HW3.out)
  have HR4 := Lib.hid ((hbb.block _ (Array.getElem?_eq_some_iff.1 HR3.out).1).trans HR3.out)
  have HL4 := Lib.hid (hl.below ha)
  have HXS : Hid ((w3b.alloc (.cells #[.int .i64 4, .string ⟨#[97]⟩, .bool false, .slice lo 0 lc, .slice none 0 0, .int .i64 0, .slice none 0 0, .slice none 0 0] 28)).heap.size = w3b.heap.size + 1) := Lib.hid (by simp)
  have HXB := Lib.hid hx
  clear hb3 hbb ha hx hl c0 c1 c2 c3 c4 c5 HB3 HD3 HW3 HR3
  go_upto_region 4 with fail
  generalize w3b.alloc (.cells #[.int .i64 4, .string ⟨#[97]⟩, .bool false, .slice lo 0 lc, .slice none 0 0, .int .i64 0, .slice none 0 0, .slice none 0 0] 28) = w4 at *
  obtain ⟨xb, hxb⟩ : ∃ xb, w3b.heap.size = xb := ⟨_, rfl⟩
  rw [hxb] at HXB HXL0 HXS ⊢
  clear hxb
  have HXL : Hid (xb < w4.heap.size) := Lib.hid (by have := HXS.out; omega)
  have HWL : Hid (w.heap.size + 1 < w4.heap.size) := Lib.hid (Array.getElem?_eq_some_iff.1 HW4.out).1
  have HWB := Lib.hid HW4.out
  have HMR := Lib.hid (HM.out.below HB4.out)
  have HSR := Lib.hid (HS.out.below HB4.out)
  clear HW4
  refine wp_region_vals (fun L vals W => AllV [some (.pointer (some ⟨w.heap.size + 1, 0, none⟩)), some (.slice mo ms.length mc), none, some (.pointer (some ⟨w.heap.size + 1, 1, none⟩)), some (.slice so ss.length sc), none, none, some (.tuple #[])] L vals ∧ Ph 6 7 (fun W => Below w4.heap.size w4 W) (fun v W => Below w4.heap.size w4 W ∧ ∃ mo2 mc2 so2 sc2, v = .agg #[.slice mo2 ms.length mc2, .slice so2 ss.length sc2] ∧ W.ownsRow w4.heap.size 3 1 (.slice mo2 ms.length mc2) ms.length (ics .i64 ms) ∧ W.ownsRow w4.heap.size 3 1 (.slice so2 ss.length sc2) ss.length (ics .i64 ss)) (fun _ W' => ∃ W mo2 mc2 so2 sc2, Below w4.heap.size w4 W ∧ W.ownsRow w4.heap.size 3 1 (.slice mo2 ms.length mc2) ms.length (ics .i64 ms) ∧ W.ownsRow w4.heap.size 3 1 (.slice so2 ss.length sc2) ss.length (ics .i64 ss) ∧ W'.heap[xb]? = some (.cells #[.int .i64 4, .string ⟨#[97]⟩, .bool false, .slice lo 0 lc, .slice none 0 0, .int .i64 0, .slice mo2 ms.length mc2, .slice so2 ss.length sc2] 28 (0, 0)) ∧ Keeps (fun b => b ≠ xb) W W' ∧ ∀ B, B ≤ xb → B ≤ W.heap.size → Below B W W') L vals W ∧ Ph 2 6 (fun _ => True) (isRw w4.heap.size ms) (fun _ _ => True) L vals W ∧ Ph 5 6 (fun _ => True) (isRw w4.heap.size ss) (fun _ _ => True) L vals W) (by kernel_rfl) ?_ (by kernel_rfl) (by kernel_rfl) ?_ ?_
  · exact ⟨AllV.start _ _, Ph.start (Below.refl _ _).drew, Ph.start trivial, Ph.start trivial⟩
  · refine AllOps.cons ?_ ?_
    · intro L vals aa W hC hB hL hD hdep
      obtain ⟨hV, hP0, hP1, hP2⟩ := hC
      refine .inl ⟨rfl, ?_⟩
      have b0 : aa.tmps.getD 3 undef = .pointer (some ⟨w.heap.size + 1, 0, none⟩) := hB.off 3 (by kernel_rfl)
      refine goesV_value (v := .pointer (some ⟨w.heap.size + 1, 0, none⟩)) ?_ ⟨hV.fix rfl, hP0.idle (by decide) (by decide) _, hP1.idle (by decide) (by decide) _, hP2.idle (by decide) (by decide) _⟩
      simp only [execOp, Act.eval, b0]
      go_simp
    refine AllOps.cons ?_ ?_
    · intro L vals aa W hC hB hL hD hdep
      obtain ⟨hV, hP0, hP1, hP2⟩ := hC
      refine .inl ⟨rfl, ?_⟩
      have e0 : aa.tmps.getD 18 undef = .pointer (some ⟨w.heap.size + 1, 0, none⟩) := hV.at (j := 0) rfl (hdep 0 18 (by kernel_rfl))
      have hpre := hP0.pre (hD 6 (by kernel_rfl))
      obtain ⟨c0, c1, _, _⟩ := rowp2d ((hpre.block _ HWL.out).trans HWB.out)
      refine goesV_value (v := .slice mo ms.length mc) ?_ ⟨hV.fix rfl, hP0.idle (by decide) (by decide) _, hP1.idle (by decide) (by decide) _, hP2.idle (by decide) (by decide) _⟩
      simp only [execOp, Act.eval, e0]
      go_simp
    refine AllOps.cons ?_ ?_
    · intro L vals aa W hC hB hL hD hdep
      obtain ⟨hV, hP0, hP1, hP2⟩ := hC
      refine .inl ⟨rfl, ?_⟩
      have e0 : aa.tmps.getD 19 undef = .slice mo ms.length mc := hV.at (j := 1) rfl (hdep 1 19 (by kernel_rfl))
      have hpre := hP0.pre (hD 6 (by kernel_rfl))
      refine goesV_call (f := 31) (args := #[.slice mo ms.length mc]) ?_ ?_
      · simp only [execOp]
        go_simp
      · exact (scli_any _ ms.length (ics .i64 ms) W (HMR.out.below hpre) (icsone ms) HLN.out.1).mono fun e w7 ⟨v7, he, ho, hb⟩ => ⟨_, he, hV.free rfl, hP0.ahead (hD 6 (by kernel_rfl)) (by decide) (by decide) _ (hpre.trans (hb.mono hpre.size)), hP1.first hL (by decide) (isRw_of (ownsRow_base ho hpre.size)), hP2.mono (by decide) (by decide) _ (fun h => h) (fun x h => h.below hb) (fun _ h => h)⟩
    refine AllOps.cons ?_ ?_
    · intro L vals aa W hC hB hL hD hdep
      obtain ⟨hV, hP0, hP1, hP2⟩ := hC
      refine .inl ⟨rfl, ?_⟩
      have b0 : aa.tmps.getD 3 undef = .pointer (some ⟨w.heap.size + 1, 0, none⟩) := hB.off 3 (by kernel_rfl)
      refine goesV_value (v := .pointer (some ⟨w.heap.size + 1, 1, none⟩)) ?_ ⟨hV.fix rfl, hP0.idle (by decide) (by decide) _, hP1.idle (by decide) (by decide) _, hP2.idle (by decide) (by decide) _⟩
      simp only [execOp, Act.eval, b0]
      go_simp
    refine AllOps.cons ?_ ?_
    · intro L vals aa W hC hB hL hD hdep
      obtain ⟨hV, hP0, hP1, hP2⟩ := hC
      refine .inl ⟨rfl, ?_⟩
      have e0 : aa.tmps.getD 21 undef = .pointer (some ⟨w.heap.size + 1, 1, none⟩) := hV.at (j := 3) rfl (hdep 3 21 (by kernel_rfl))
      have hpre := hP0.pre (hD 6 (by kernel_rfl))
      obtain ⟨c0, c1, _, _⟩ := rowp2d ((hpre.block _ HWL.out).trans HWB.out)
      refine goesV_value (v := .slice so ss.length sc) ?_ ⟨hV.fix rfl, hP0.idle (by decide) (by decide) _, hP1.idle (by decide) (by decide) _, hP2.idle (by decide) (by decide) _⟩
      simp only [execOp, Act.eval, e0]
      go_simp
    refine AllOps.cons ?_ ?_
    · intro L vals aa W hC hB hL hD hdep
      obtain ⟨hV, hP0, hP1, hP2⟩ := hC
      refine .inl ⟨rfl, ?_⟩
      have e0 : aa.tmps.getD 22 undef = .slice so ss.length sc := hV.at (j := 4) rfl (hdep 4 22 (by kernel_rfl))
      have hpre := hP0.pre (hD 6 (by kernel_rfl))
      refine goesV_call (f := 31) (args := #[.slice so ss.length sc]) ?_ ?_
      · simp only [execOp]
        go_simp
      · exact (scli_any _ ss.length (ics .i64 ss) W (HSR.out.below hpre) (icsone ss) HLN.out.2).mono fun e w7 ⟨v7, he, ho, hb⟩ => ⟨_, he, hV.free rfl, hP0.ahead (hD 6 (by kernel_rfl)) (by decide) (by decide) _ (hpre.trans (hb.mono hpre.size)), hP1.mono (by decide) (by decide) _ (fun h => h) (fun x h => h.below hb) (fun _ h => h), hP2.first hL (by decide) (isRw_of (ownsRow_base ho hpre.size))⟩
    refine AllOps.cons ?_ ?_
    · intro L vals aa W hC hB hL hD hdep
      obtain ⟨hV, hP0, hP1, hP2⟩ := hC
      refine .inl ⟨rfl, ?_⟩
      obtain ⟨l0, e0⟩ := hdep 2 20 (by kernel_rfl)
      obtain ⟨l1, e1⟩ := hdep 5 23 (by kernel_rfl)
      have hpre := hP0.pre hL
      obtain ⟨mo2, mc2, hm2, hm3⟩ := hP1.mid l0 hL
      obtain ⟨so2, sc2, hs2, hs3⟩ := hP2.mid l1 hL
      rw [hm2] at e0
      rw [hs2] at e1
      refine goesV_value (v := .agg #[.slice mo2 ms.length mc2, .slice so2 ss.length sc2]) ?_ ⟨hV.free rfl, hP0.first hL (by decide) ⟨hpre, mo2, mc2, so2, sc2, rfl, hm3, hs3⟩, Ph.last l0 (by decide) _ trivial, Ph.last l1 (by decide) _ trivial⟩
      simp only [Array.getD_eq_getD_getElem?] at e0 e1
      simp only [execOp]
      go_simp
    refine AllOps.cons ?_ ?_
    · intro L vals aa W hC hB hL hD hdep
      obtain ⟨hV, hP0, hP1, hP2⟩ := hC
      refine .inl ⟨rfl, ?_⟩
      obtain ⟨l0, e0⟩ := hdep 6 24 (by kernel_rfl)
      have b0 : aa.tmps.getD 6 undef = .pointer (some ⟨xb, 0, none⟩) := hB.off 6 (by kernel_rfl)
      obtain ⟨hpre, mo2, mc2, so2, sc2, hv2, hm3, hs3⟩ := hP0.mid l0 hL
      rw [hv2] at e0
      refine goesV_call (f := 20) (args := #[.pointer (some ⟨xb, 0, none⟩), .agg #[.slice mo2 ms.length mc2, .slice so2 ss.length sc2]]) ?_ ?_
      · simp only [execOp, Act.eval, e0, b0]
        go_simp
      · exact (wear_any xb _ _ _ _ _ _ _ _ mo2 ms.length mc2 so2 ss.length sc2 W ((hpre.block _ HXL.out).trans HXB.out)).mono fun e w7 ⟨he, hr, hk, hb⟩ => ⟨_, he, hV.fix rfl, Ph.last l0 (by decide) _ ⟨W, mo2, mc2, so2, sc2, hpre, hm3, hs3, hr, hk, hb⟩, Ph.done l0 (hP1.ord l0) (by decide) (by decide) _ trivial, Ph.done l0 (hP2.ord l0) (by decide) (by decide) _ trivial⟩
    exact trivial
  · intro L vals aa w8 hC hLL hB hall
    obtain ⟨hV, hP0, hP1, hP2⟩ := hC
    have hv : ∀ p ∈ [((18 : Nat), (.pointer (some ⟨w.heap.size + 1, 0, none⟩) : Value)), ((19 : Nat), (.slice mo ms.length mc : Value)), ((20 : Nat), (vals 2 : Value)), ((21 : Nat), (.pointer (some ⟨w.heap.size + 1, 1, none⟩) : Value)), ((22 : Nat), (.slice so ss.length sc : Value)), ((23 : Nat), (vals 5 : Value)), ((24 : Nat), (vals 6 : Value)), ((25 : Nat), (.tuple #[] : Value))], aa.tmps.getD p.1 undef = p.2 := by
      intro p hp
      simp only [List.mem_cons, List.not_mem_nil, or_false] at hp
      rcases hp with rfl | rfl | rfl | rfl | rfl | rfl | rfl | rfl
      · exact (hall 0 _ rfl _ rfl).trans (hV 0 _ rfl (hLL 0 (Nat.le_of_ble_eq_true rfl)))
      · exact (hall 1 _ rfl _ rfl).trans (hV 1 _ rfl (hLL 1 (Nat.le_of_ble_eq_true rfl)))
      · exact hall 2 _ rfl _ rfl
      · exact (hall 3 _ rfl _ rfl).trans (hV 3 _ rfl (hLL 3 (Nat.le_of_ble_eq_true rfl)))
      · exact (hall 4 _ rfl _ rfl).trans (hV 4 _ rfl (hLL 4 (Nat.le_of_ble_eq_true rfl)))
      · exact hall 5 _ rfl _ rfl
      · exact hall 6 _ rfl _ rfl
      · exact (hall 7 _ rfl _ rfl).trans (hV 7 _ rfl (hLL 7 (Nat.le_of_ble_eq_true rfl)))
    have hact := act_fold _ hB hv (by kernel_rfl)
    subst hact
    have hfin := hP0.fin (hLL 7 (Nat.le_of_ble_eq_true rfl))
    clear hv hall hB hV hLL hP0 hP1 hP2
    refine (‹∀ (a : Act) (w : World), Code.wp Tryd.prog _ _ a w → _›) _ w8 ?_
    simp only [List.foldl, List.setIfInBounds_toArray, List.set_cons_succ, List.set_cons_zero]
    obtain ⟨W, mo2, mc2, so2, sc2, hC, hm3, hs3, hr, hk, hb⟩ := hfin
    have hxl := HXL.out
    have hxl0 := HXL0.out
    have hle := HB4.out.size
    have hle2 := hC.size
    have HM8 := Lib.hid (ownsRow_keep hm3 hk fun b hb => by have := (hm3.lt b hb).1; omega)
    have HS8 := Lib.hid (ownsRow_keep hs3 hk fun b hb => by have := (hs3.lt b hb).1; omega)
    have HL8 := Lib.hid (rowz (HL4.out.below hC) hk)
    have hzz := (hk.2 (w.heap.size + 2) (by omega) (by omega)).trans ((hC.block _ (Array.getElem?_eq_some_iff.1 HR4.out).1).trans HR4.out)
    have hb8 : Below w.heap.size w w8 := (HB4.out.trans (hC.mono hle)).trans (hb w.heap.size (by omega) (by omega))
    obtain ⟨d0, d1, d2, d3, d4, d5, d6, d7⟩ := rowS8 hr
    obtain ⟨e0, e1, e2, e3, e4, e5, e6, e7⟩ := rowS8 hzz
    have z0 := frozen_heap hzz 0
    have z1 := frozen_heap hzz 1
    have z2 := frozen_heap hzz 2
    have z3 := frozen_heap hzz 3
    have z4 := frozen_heap hzz 4
    have z5 := frozen_heap hzz 5
    have z6 := frozen_heap hzz 6
    have z7 := frozen_heap hzz 7
    have hrow := put8w_row hzz (.int .i64 4) (.string ⟨#[97]⟩) (.bool false) (.slice lo 0 lc) (.slice none 0 0) (.int .i64 0) (.slice mo2 ms.length mc2) (.slice so2 ss.length sc2)
    have hbf := put8w_below hb8 (show w.heap.size ≤ w.heap.size + 2 by omega) (.int .i64 4) (.string ⟨#[97]⟩) (.bool false) (.slice lo 0 lc) (.slice none 0 0) (.int .i64 0) (.slice mo2 ms.length mc2) (.slice so2 ss.length sc2)
    have hkf := put8w_keep (fun b => b ≠ w.heap.size + 2) w8 (w.heap.size + 2) (by simp) (.int .i64 4) (.string ⟨#[97]⟩) (.bool false) (.slice lo 0 lc) (.slice none 0 0) (.int .i64 0) (.slice mo2 ms.length mc2) (.slice so2 ss.length sc2)
    have HF := Lib.hid (And.intro hrow (And.intro hbf (And.intro (rowz HL8.out hkf) (And.intro (RowV.of_own (ownsRow_keep HM8.out hkf fun b hb => by have := (HM8.out.lt b hb).1; omega)) (RowV.of_own (ownsRow_keep HS8.out hkf fun b hb => by have := (HS8.out.lt b hb).1; omega))))))
    clear hrow hbf hkf hzz hb8 hm3 hs3 hr hk hb hC
    go_wp2_with fail
    clear d0 d1 d2 d3 d4 d5 d6 d7 e0 e1 e2 e3 e4 e5 e6 e7 z0 z1 z2 z3 z4 z5 z6 z7
    unfold put8w at HF
    generalize World.setCell _ ⟨w.heap.size + 2, 7, none⟩ (.slice so2 ss.length sc2) = W9 at *
    obtain ⟨g0, g1, g2, g3, g4, g5, g6, g7⟩ := rowS8 HF.out.1
    refine bodyPost_ret (v := .tuple #[.agg #[.int .i64 4, .string ⟨#[97]⟩, .bool false, .slice lo 0 lc, .slice none 0 0, .int .i64 0, .slice mo2 ms.length mc2, .slice so2 ss.length sc2], .int .i64 0]) (by simp [results, Tryd.results13, go_sem, g0, g1, g2, g3, g4, g5, g6, g7]) rfl ?_
    exact ⟨_, _, _, _, rfl, HF.out.2.2.1, HF.out.2.2.2.1, HF.out.2.2.2.2, HF.out.2.1⟩

theorem snd50 : sndW [5] [0] = true := by decide
set_option maxRecDepth 100000 in
set_option maxHeartbeats 4000000 in
/-- law10's answers. -/
theorem answers10_any (w : World) (ht : Tabs w) : Calls Tryd.prog 4 #[] w fun e w' => e = .returned (.bool true) ∧ Below w.heap.size w w' := by
  have HT := Lib.hid ht
  clear ht
  go_enter Tryd.func4, Tryd.ntmps4
  go_wp2_with fail
  refine (mark_any 5 w).mono ?_
  rintro e w1 ⟨⟨x, rfl, hx⟩, hb1⟩
  obtain ⟨mv, sv, rfl, hm, hs⟩ := hx.cells
  obtain ⟨mo, mc, rfl⟩ : ∃ o c, mv = .slice o 1 c := by obtain ⟨_, _, o, c, h, _⟩ := hm; exact ⟨o, c, h⟩
  obtain ⟨so, sc, rfl⟩ : ∃ o c, sv = .slice o 1 c := by obtain ⟨_, _, o, c, h, _⟩ := hs; exact ⟨o, c, h⟩
  have HM := Lib.hid hm
  have HS := Lib.hid hs
  have HB1 := Lib.hid hb1
  clear hx hm hs hb1
  go_wp2_with fail
  refine (of_leaf [5] [0] mo mc so sc w1 HM.out HS.out snd50 (HT.out.below HB1.out (Nat.le_refl _))).mono ?_
  rintro e w2 ⟨lo, lc, mv, sv, rfl, hl, hm, hs, hb2⟩
  obtain ⟨mo2, mc2, rfl⟩ : ∃ o c, mv = .slice o 1 c := by obtain ⟨_, _, o, c, h, _⟩ := hm; exact ⟨o, c, h⟩
  obtain ⟨so2, sc2, rfl⟩ : ∃ o c, sv = .slice o 1 c := by obtain ⟨_, _, o, c, h, _⟩ := hs; exact ⟨o, c, h⟩
  have HB2 := Lib.hid (HB1.out.trans (hb2.mono HB1.out.size))
  have ha := below1 w2 (.cells #[.int .i64 4, .string ⟨#[97]⟩, .bool false, .slice lo 0 lc, .slice none 0 0, .int .i64 0, .slice mo2 1 mc2, .slice so2 1 sc2] 28)
  have hxx := heap_alloc_new w2 (.cells #[.int .i64 4, .string ⟨#[97]⟩, .bool false, .slice lo 0 lc, .slice none 0 0, .int .i64 0, .slice mo2 1 mc2, .slice so2 1 sc2] 28)
  have HY : Hid (SLay w2 (.mk 4 aB false [] [] 0 [5] [0]) [.int .i64 4, .string ⟨#[97]⟩, .bool false, .slice lo 0 lc, .slice none 0 0, .int .i64 0, .slice mo2 1 mc2, .slice so2 1 sc2]) := Lib.hid (.mk (us := []) (by decide) (fun _ h => by cases h) hl (row_nil8 _ _) hm hs fun i hi => by simp at hi)
  clear hl hm hs hb2 HM HS
  go_upto_region 2 with fail
  generalize w2.alloc (.cells #[.int .i64 4, .string ⟨#[97]⟩, .bool false, .slice lo 0 lc, .slice none 0 0, .int .i64 0, .slice mo2 1 mc2, .slice so2 1 sc2] 28) = w3 at *
  have HB3 := Lib.hid (HB2.out.trans (ha.mono HB2.out.size))
  have HY3 := Lib.hid (HY.out.keep ha)
  obtain ⟨c0, c1, c2, c3, c4, c5, c6, c7⟩ := rowS8 hxx
  clear ha hxx HY
  go_wp2_with fail
  refine (ident_any (.mk 4 aB false [] [] 0 [5] [0]) _ w3 HY3.out (.mk (by decide) (by simp) (by simp) (by simp) (by simp) fun i hi => by simp at hi) (HT.out.below HB3.out (Nat.le_refl _))).mono ?_
  rintro e w4 ⟨rfl, hb4⟩
  rw [idB_leaf aB_byt (by omega) snd50]
  have HB4 := Lib.hid (HB3.out.trans (hb4.mono HB3.out.size))
  clear hb4 c0 c1 c2 c3 c4 c5 c6 c7
  go_wp2_with fail
  go_ret
  exact ⟨rfl, HB4.out⟩
end Go.Proofs.YtbfcbicbeagjkaaDoor
