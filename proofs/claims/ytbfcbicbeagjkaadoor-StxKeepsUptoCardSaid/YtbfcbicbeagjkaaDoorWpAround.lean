/- Both wraps' marks, and both wraps' substitutions, behind one another; a wrap that shares nothing. -/
import Derived.Test.YtbfcbicbeagjkaaDoorWpCat
import Derived.Test.YtbfcbicbeagjkaaDoorOrdL
namespace Go.Proofs.YtbfcbicbeagjkaaDoor
open Go.RowKit

def isWr (m s : List Int) : Value → World → Prop := fun v W => Wr W v m s
def isRow2 (a b : Value) (e : TypeId) : Value → World → Prop := fun v W => ∃ g, v = .slice (some ⟨g, 0, none⟩) 2 2 ∧ W.heap[g]? = some (.cells #[a, b] e (0, 0))
theorem isWr_stays (m s : List Int) : Stays (isWr m s) := fun _ _ _ hb h => Wr.below h hb
theorem isRow2_stays (a b : Value) (e : TypeId) : Stays (isRow2 a b e) := fun _ _ _ hb ⟨g, h1, h2⟩ => ⟨g, h1, (hb.block g (Array.getElem?_eq_some_iff.1 h2).1).trans h2⟩
theorem rowp2 {W : World} {g : Nat} {a0 a1 : Value} {e : TypeId} (h : W.heap[g]? = some (.cells #[a0, a1] e (0, 0))) : W.cell? ⟨g, 0, none⟩ = some a0 ∧ W.cell? ⟨g, 1, none⟩ = some a1 ∧ W.frozen? ⟨g, 0, none⟩ = false ∧ W.frozen? ⟨g, 1, none⟩ = false :=
  ⟨cell_heap h 0, cell_heap h 1, frozen_heap h 0, frozen_heap h 1⟩
theorem putp2 {W : World} {g : Nat} {a0 a1 : Value} {e : TypeId} (h : W.heap[g]? = some (.cells #[a0, a1] e (0, 0))) (b0 b1 : Value) : ((W.setCell ⟨g, 0, none⟩ b0).setCell ⟨g, 1, none⟩ b1).heap[g]? = some (.cells #[b0, b1] e (0, 0)) := (rowSet (rowSet h 0 b0) 1 b1).trans (by simp)
theorem newsp3 {w : World} {a b c : Obj} : (((w.alloc a).alloc b).alloc c).heap[w.heap.size]? = some a ∧ (((w.alloc a).alloc b).alloc c).heap[w.heap.size + 1]? = some b ∧ (((w.alloc a).alloc b).alloc c).heap[w.heap.size + 2]? = some c := by
  refine ⟨?_, ?_, ?_⟩
  · rw [Below.heap_alloc _ _ _ (by simp; omega), Below.heap_alloc _ _ _ (by simp)]; exact heap_alloc_new w _
  · rw [Below.heap_alloc _ _ _ (by simp)]
    have := heap_alloc_new (w.alloc a) b
    simpa using this
  · have := heap_alloc_new ((w.alloc a).alloc b) c
    simpa using this
/-- Ints stay where a box of slices is filled. -/
theorem Iz.fill {W : World} {v : Value} {zs : List Int} (h : Iz W v zs) {g : Nat} {e : TypeId} {o1 o2 : Option Addr} {n1 n2 c1 c2 : Nat} (hg : W.heap[g]? = some (.cells #[.slice o1 n1 c1, .slice o2 n2 c2] e (0, 0))) (x y : Value) : Iz ((W.setCell ⟨g, 0, none⟩ x).setCell ⟨g, 1, none⟩ y) v zs := by
  obtain ⟨hm, ao, cap, rfl, hc, hr⟩ := h.cases
  rcases hr with ⟨rfl, h0⟩ | ⟨b, off, rfl, hb, hcell⟩
  · exact ⟨rfl, hm, ao, cap, rfl, hc, .inl ⟨rfl, h0⟩⟩
  · by_cases hbg : b = g
    · subst hbg
      rcases Nat.eq_zero_or_pos zs.length with h0 | hp
      · obtain rfl : zs = [] := List.eq_nil_of_length_eq_zero h0
        exact Iz.empty _ _ _
      · have h1 := hcell 0 hp
        rw [cell_heap hg (off + 0)] at h1
        match off, h1 with
        | 0, h1 => simp at h1
        | 1, h1 => simp at h1
        | off + 2, h1 => simp at h1
    · refine Iz.mk rfl hm hc (by simpa using hb) fun j hj => ?_
      rw [cell_other (by exact hbg), cell_other (by exact hbg)]
      exact hcell j hj
theorem Wr.fill {W : World} {v : Value} {m s : List Int} (h : Wr W v m s) {g : Nat} {e : TypeId} {o1 o2 : Option Addr} {n1 n2 c1 c2 : Nat} (hg : W.heap[g]? = some (.cells #[.slice o1 n1 c1, .slice o2 n2 c2] e (0, 0))) (x y : Value) : Wr ((W.setCell ⟨g, 0, none⟩ x).setCell ⟨g, 1, none⟩ y) v m s := by
  obtain ⟨mv, sv, h1, h2, h3⟩ := h.cells
  exact ⟨mv, sv, h1, h2.fill hg x y, h3.fill hg x y⟩
/-- A box is filled with a wrap. -/
def Fills (rb : Nat) : Value → Value → World → World → Prop := fun _ v W0 W' => ∃ a b, v = .agg #[a, b] ∧ W' = (W0.setCell ⟨rb, 0, none⟩ a).setCell ⟨rb, 1, none⟩ b

/-- A wrap with memory of its own. -/
structure WrO (B : Nat) (w : World) (x : Value) (m s : List Int) : Prop where
  wr : Wr w x m s
  own : ∃ mv sv, x = .agg #[mv, sv] ∧ w.ownsRow B 3 1 mv m.length (ic m) ∧ w.ownsRow B 3 1 sv s.length (ic s)
theorem WrO.of {B : Nat} {w : World} {m s : List Int} {mv sv : Value} (h1 : w.ownsRow B 3 1 mv m.length (ic m)) (h2 : w.ownsRow B 3 1 sv s.length (ic s)) : WrO B w (.agg #[mv, sv]) m s := ⟨⟨_, _, rfl, Iz.of_own h1, Iz.of_own h2⟩, _, _, rfl, h1, h2⟩
theorem WrO.nil (B : Nat) (w : World) : WrO B w (.agg #[.slice none 0 0, .slice none 0 0]) [] [] := .of (World.ownsRow_nil _ _ _ _) (World.ownsRow_nil _ _ _ _)
theorem WrO.below {B : Nat} {w w' : World} {x : Value} {m s : List Int} (h : WrO B w x m s) (hb : Below w.heap.size w w') : WrO B w' x m s := by
  obtain ⟨mv, sv, rfl, h1, h2⟩ := h.own
  exact .of (ownsRow_keep h1 (Keeps.of_below (P := fun _ => True) hb) fun _ _ => trivial) (ownsRow_keep h2 (Keeps.of_below (P := fun _ => True) hb) fun _ _ => trivial)
theorem own_low {w : World} {B B' : Nat} {e : TypeId} {size n : Nat} {v : Value} {xs : List Value} (h : w.ownsRow B e size v n xs) (hle : B' ≤ B) : w.ownsRow B' e size v n xs := by
  obtain ⟨h1, h2⟩ := h
  refine ⟨h1, ?_⟩
  rcases h2 with h2 | ⟨g, cap, cur, h3, h4, h5⟩
  · exact .inl h2
  · exact .inr ⟨g, cap, cur, h3, Nat.le_trans hle h4, h5⟩
theorem WrO.low {B B' : Nat} {w : World} {x : Value} {m s : List Int} (h : WrO B w x m s) (hle : B' ≤ B) : WrO B' w x m s := by
  obtain ⟨mv, sv, rfl, h1, h2⟩ := h.own
  exact .of (own_low h1 hle) (own_low h2 hle)
theorem own_fill {W : World} {B size n : Nat} {e e2 : TypeId} {v : Value} {xs : List Value} (h : W.ownsRow B e size v n xs) {g : Nat} {cs : Array Value} (hg : W.heap[g]? = some (.cells cs e2 (0, 0))) (hne : e ≠ e2) (a b : Value) : ((W.setCell ⟨g, 0, none⟩ a).setCell ⟨g, 1, none⟩ b).ownsRow B e size v n xs :=
  ownsRow_keep h (((Keeps.refl (fun b => b ≠ g) W).set (p := ⟨g, 0, none⟩) (fun h => h rfl) _).set (p := ⟨g, 1, none⟩) (fun h => h rfl) _) fun b hb hbg => by
    subst hbg
    rcases h.2 with ⟨rfl, _⟩ | ⟨g', cap, cur, rfl, _, hh, _⟩
    · cases hb
    · injection hb with hb
      subst hb
      rw [hg] at hh
      injection hh with hh
      injection hh with _ h2 _
      exact hne h2.symm
theorem WrO.fill {B : Nat} {W : World} {v : Value} {m s : List Int} (h : WrO B W v m s) {g : Nat} {cs : Array Value} {e : TypeId} (hg : W.heap[g]? = some (.cells cs e (0, 0))) (hne : 3 ≠ e) (x y : Value) : WrO B ((W.setCell ⟨g, 0, none⟩ x).setCell ⟨g, 1, none⟩ y) v m s := by
  obtain ⟨mv, sv, rfl, h1, h2⟩ := h.own
  exact .of (own_fill h1 hg hne x y) (own_fill h2 hg hne x y)
def isOzW (B : Nat) (zs : List Int) : Value → World → Prop := fun v W => W.ownsRow B 3 1 v zs.length (ic zs)
def isWrO (B : Nat) (m s : List Int) : Value → World → Prop := fun v W => WrO B W v m s
theorem isOzW_stays (B : Nat) (zs : List Int) : Stays (isOzW B zs) := fun _ _ _ hb h => ownsRow_keep h (Keeps.of_below (P := fun _ => True) hb) fun _ _ => trivial
theorem isWrO_stays (B : Nat) (m s : List Int) : Stays (isWrO B m s) := fun _ _ _ hb h => WrO.below h hb

set_option maxRecDepth 100000 in
set_option maxHeartbeats 4000000 in
theorem aroundO_any (x y : Value) (m s n t : List Int) (w : World) (hx : Wr w x m s) (hy : Wr w y n t) (h1 : m.length ≤ 10000) (h2 : s.length ≤ 10000) (h3 : n.length ≤ 10000) (h4 : t.length ≤ 10000) :
    Calls Tryd.prog 38 #[x, y] w fun e w' => (∃ z, e = .returned z ∧ WrO w.heap.size w' z (m ++ n) (s ++ t)) ∧ Below w.heap.size w w' := by
  obtain ⟨mv, sv, rfl, hm, hs⟩ := hx.cells
  obtain ⟨nv, tv, rfl, hn, ht⟩ := hy.cells
  obtain ⟨_, ma, mc, hmv, _, _⟩ := hm.cases
  obtain ⟨_, sa, sc, hsv, _, _⟩ := hs.cases
  obtain ⟨_, na, nc, hnv, _, _⟩ := hn.cases
  obtain ⟨_, ta, tc, htv, _, _⟩ := ht.cases
  generalize m.length = ml at hmv
  generalize s.length = sl at hsv
  generalize n.length = nl at hnv
  generalize t.length = tl at htv
  subst hmv hsv hnv htv
  have HM := Lib.hid hm
  have HS := Lib.hid hs
  have HN := Lib.hid hn
  have HT := Lib.hid ht
  have HLN := Lib.hid (And.intro h1 (And.intro h2 (And.intro h3 h4)))
  clear hx hy hm hs hn ht h1 h2 h3 h4
  have HB1 := Lib.hid (below3 w (.cells #[.slice ma ml mc, .slice sa sl sc] 30) (.cells #[.slice na nl nc, .slice ta tl tc] 30) (.cells #[.slice none 0 0, .slice none 0 0] 30))
  have HN1 := Lib.hid (@newsp3 w (.cells #[.slice ma ml mc, .slice sa sl sc] 30) (.cells #[.slice na nl nc, .slice ta tl tc] 30) (.cells #[.slice none 0 0, .slice none 0 0] 30))
  go_enter Tryd.func38, Tryd.ntmps38
  go_upto_region 1 with fail
  generalize ((w.alloc (.cells #[.slice ma ml mc, .slice sa sl sc] 30)).alloc (.cells #[.slice na nl nc, .slice ta tl tc] 30)).alloc (.cells #[.slice none 0 0, .slice none 0 0] 30) = w1 at *
  have HWB : Hid (w.heap.size + 2 < w1.heap.size) := Lib.hid (Array.getElem?_eq_some_iff.1 HN1.out.2.2).1
  have HXV : Hid (∀ W, Below w1.heap.size w1 W → W.cell? ⟨w.heap.size, 0, none⟩ = some (.slice ma ml mc) ∧ W.cell? ⟨w.heap.size, 1, none⟩ = some (.slice sa sl sc) ∧ W.cell? ⟨w.heap.size + 1, 0, none⟩ = some (.slice na nl nc) ∧ W.cell? ⟨w.heap.size + 1, 1, none⟩ = some (.slice ta tl tc)) := Lib.hid fun W hW => by
    have hwb := HWB.out
    have k0 := rowp2 ((hW.block _ (show w.heap.size < w1.heap.size by omega)).trans HN1.out.1)
    have k1 := rowp2 ((hW.block _ (show w.heap.size + 1 < w1.heap.size by omega)).trans HN1.out.2.1)
    exact ⟨k0.1, k0.2.1, k1.1, k1.2.1⟩
  have HRB : Hid (∀ W, Below w1.heap.size w1 W → W.heap[w.heap.size + 2]? = some (.cells #[.slice none 0 0, .slice none 0 0] 30 (0, 0))) := Lib.hid fun W hW => (hW.block _ HWB.out).trans HN1.out.2.2
  refine wp_region_late 13 12 12 17 17 (psi [isV (.pointer (some ⟨w.heap.size, 0, none⟩)), isV (.slice ma ml mc), isV (.pointer (some ⟨w.heap.size + 1, 0, none⟩)), isV (.slice na nl nc), isRow2 (.slice ma ml mc) (.slice na nl nc) 26, isOzW w.heap.size (m ++ n), isV (.pointer (some ⟨w.heap.size, 1, none⟩)), isV (.slice sa sl sc), isV (.pointer (some ⟨w.heap.size + 1, 1, none⟩)), isV (.slice ta tl tc), isRow2 (.slice sa sl sc) (.slice ta tl tc) 26, isOzW w.heap.size (s ++ t), isWrO w.heap.size (m ++ n) (s ++ t), nothing]) (fun W => Below w1.heap.size w1 W) (Fills (w.heap.size + 2)) (by kernel_rfl) (Below.refl _ _).drew (psi_mono ?_) (by kernel_rfl) (by kernel_rfl) (by kernel_rfl) ?_ ?_
  · intro p hp
    simp only [List.mem_cons, List.not_mem_nil, or_false] at hp
    (repeat' rcases hp with rfl | hp) <;> first | exact isV_stays _ | exact nothing_stays | (subst hp; first | exact isV_stays _ | exact nothing_stays) | exact isOzW_stays _ _ | exact isRow2_stays _ _ _ | exact isWrO_stays _ _ _ | (subst hp; exact isOzW_stays _ _) | (subst hp; exact isRow2_stays _ _ _) | (subst hp; exact isWrO_stays _ _ _)
  · refine AllOps.cons ?_ ?_
    · refine OpL.early (by kernel_rfl) (by kernel_rfl) fun ab W hC hB hdep => ?_
      refine .inl ⟨rfl, ?_⟩
      have b0 : ab.tmps.getD 2 undef = .pointer (some ⟨w.heap.size, 0, none⟩) := hB.off 2 (by kernel_rfl)
      clear hB hdep
      refine goes_value (v := .pointer (some ⟨w.heap.size, 0, none⟩)) ?_ hC rfl
      simp only [execOp, Act.eval, b0]
      go_simp
    refine AllOps.cons ?_ ?_
    · refine OpL.early (by kernel_rfl) (by kernel_rfl) fun ab W hC hB hdep => ?_
      refine .inl ⟨rfl, ?_⟩
      obtain ⟨x0, (q0 : (isV (.pointer (some ⟨w.heap.size, 0, none⟩))) x0 W), e0⟩ := hdep 0 5 (by kernel_rfl)
      obtain rfl : x0 = .pointer (some ⟨w.heap.size, 0, none⟩) := q0
      obtain ⟨c0, c1, c2, c3⟩ := HXV.out W hC
      clear hB hdep
      refine goes_value (v := .slice ma ml mc) ?_ hC rfl
      simp only [execOp, Act.eval, e0]
      go_simp
    refine AllOps.cons ?_ ?_
    · refine OpL.early (by kernel_rfl) (by kernel_rfl) fun ab W hC hB hdep => ?_
      refine .inl ⟨rfl, ?_⟩
      have b0 : ab.tmps.getD 3 undef = .pointer (some ⟨w.heap.size + 1, 0, none⟩) := hB.off 3 (by kernel_rfl)
      clear hB hdep
      refine goes_value (v := .pointer (some ⟨w.heap.size + 1, 0, none⟩)) ?_ hC rfl
      simp only [execOp, Act.eval, b0]
      go_simp
    refine AllOps.cons ?_ ?_
    · refine OpL.early (by kernel_rfl) (by kernel_rfl) fun ab W hC hB hdep => ?_
      refine .inl ⟨rfl, ?_⟩
      obtain ⟨x0, (q0 : (isV (.pointer (some ⟨w.heap.size + 1, 0, none⟩))) x0 W), e0⟩ := hdep 2 7 (by kernel_rfl)
      obtain rfl : x0 = .pointer (some ⟨w.heap.size + 1, 0, none⟩) := q0
      obtain ⟨c0, c1, c2, c3⟩ := HXV.out W hC
      clear hB hdep
      refine goes_value (v := .slice na nl nc) ?_ hC rfl
      simp only [execOp, Act.eval, e0]
      go_simp
    refine AllOps.cons ?_ ?_
    · refine OpL.early (by kernel_rfl) (by kernel_rfl) fun ab W hC hB hdep => ?_
      refine .inl ⟨rfl, ?_⟩
      obtain ⟨x0, (q0 : (isV (.slice ma ml mc)) x0 W), e0⟩ := hdep 1 6 (by kernel_rfl)
      obtain rfl : x0 = .slice ma ml mc := q0
      obtain ⟨x1, (q1 : (isV (.slice na nl nc)) x1 W), e1⟩ := hdep 3 8 (by kernel_rfl)
      obtain rfl : x1 = .slice na nl nc := q1
      clear hB hdep
      refine goes_world (v := .slice (some ⟨W.heap.size, 0, none⟩) 2 2) (w1 := W.alloc (.cells #[.slice ma ml mc, .slice na nl nc] 26)) ?_ (hC.trans ((below1 W _).mono hC.size)) (below1 W _) ⟨_, rfl, heap_alloc_new W _⟩
      simp only [Array.getD_eq_getD_getElem?] at e0 e1
      simp only [execOp]
      go_simp
    refine AllOps.cons ?_ ?_
    · refine OpL.early (by kernel_rfl) (by kernel_rfl) fun ab W hC hB hdep => ?_
      refine .inl ⟨rfl, ?_⟩
      obtain ⟨x0, (q0 : (isRow2 (.slice ma ml mc) (.slice na nl nc) 26) x0 W), e0⟩ := hdep 4 9 (by kernel_rfl)
      obtain ⟨g0, rfl, hg0⟩ := q0
      clear hB hdep
      refine goes_call (f := 51) (args := #[.slice (some ⟨g0, 0, none⟩) 2 2]) ?_ ?_
      · simp only [execOp]
        go_simp
      · have hW := HB1.out.trans (hC.mono HB1.out.size)
        exact (concatO_any g0 _ _ m n _ W hg0 (HM.out.below hW) (HN.out.below hW) HLN.out.1 HLN.out.2.2.1).mono fun e w7 ⟨⟨v7, he, hi⟩, hb⟩ => ⟨v7, he, hC.trans (hb.mono hC.size), hb, own_low hi (Nat.le_trans HB1.out.size hC.size)⟩
    refine AllOps.cons ?_ ?_
    · refine OpL.early (by kernel_rfl) (by kernel_rfl) fun ab W hC hB hdep => ?_
      refine .inl ⟨rfl, ?_⟩
      have b0 : ab.tmps.getD 2 undef = .pointer (some ⟨w.heap.size, 0, none⟩) := hB.off 2 (by kernel_rfl)
      clear hB hdep
      refine goes_value (v := .pointer (some ⟨w.heap.size, 1, none⟩)) ?_ hC rfl
      simp only [execOp, Act.eval, b0]
      go_simp
    refine AllOps.cons ?_ ?_
    · refine OpL.early (by kernel_rfl) (by kernel_rfl) fun ab W hC hB hdep => ?_
      refine .inl ⟨rfl, ?_⟩
      obtain ⟨x0, (q0 : (isV (.pointer (some ⟨w.heap.size, 1, none⟩))) x0 W), e0⟩ := hdep 6 11 (by kernel_rfl)
      obtain rfl : x0 = .pointer (some ⟨w.heap.size, 1, none⟩) := q0
      obtain ⟨c0, c1, c2, c3⟩ := HXV.out W hC
      clear hB hdep
      refine goes_value (v := .slice sa sl sc) ?_ hC rfl
      simp only [execOp, Act.eval, e0]
      go_simp
    refine AllOps.cons ?_ ?_
    · refine OpL.early (by kernel_rfl) (by kernel_rfl) fun ab W hC hB hdep => ?_
      refine .inl ⟨rfl, ?_⟩
      have b0 : ab.tmps.getD 3 undef = .pointer (some ⟨w.heap.size + 1, 0, none⟩) := hB.off 3 (by kernel_rfl)
      clear hB hdep
      refine goes_value (v := .pointer (some ⟨w.heap.size + 1, 1, none⟩)) ?_ hC rfl
      simp only [execOp, Act.eval, b0]
      go_simp
    refine AllOps.cons ?_ ?_
    · refine OpL.early (by kernel_rfl) (by kernel_rfl) fun ab W hC hB hdep => ?_
      refine .inl ⟨rfl, ?_⟩
      obtain ⟨x0, (q0 : (isV (.pointer (some ⟨w.heap.size + 1, 1, none⟩))) x0 W), e0⟩ := hdep 8 13 (by kernel_rfl)
      obtain rfl : x0 = .pointer (some ⟨w.heap.size + 1, 1, none⟩) := q0
      obtain ⟨c0, c1, c2, c3⟩ := HXV.out W hC
      clear hB hdep
      refine goes_value (v := .slice ta tl tc) ?_ hC rfl
      simp only [execOp, Act.eval, e0]
      go_simp
    refine AllOps.cons ?_ ?_
    · refine OpL.early (by kernel_rfl) (by kernel_rfl) fun ab W hC hB hdep => ?_
      refine .inl ⟨rfl, ?_⟩
      obtain ⟨x0, (q0 : (isV (.slice sa sl sc)) x0 W), e0⟩ := hdep 7 12 (by kernel_rfl)
      obtain rfl : x0 = .slice sa sl sc := q0
      obtain ⟨x1, (q1 : (isV (.slice ta tl tc)) x1 W), e1⟩ := hdep 9 14 (by kernel_rfl)
      obtain rfl : x1 = .slice ta tl tc := q1
      clear hB hdep
      refine goes_world (v := .slice (some ⟨W.heap.size, 0, none⟩) 2 2) (w1 := W.alloc (.cells #[.slice sa sl sc, .slice ta tl tc] 26)) ?_ (hC.trans ((below1 W _).mono hC.size)) (below1 W _) ⟨_, rfl, heap_alloc_new W _⟩
      simp only [Array.getD_eq_getD_getElem?] at e0 e1
      simp only [execOp]
      go_simp
    refine AllOps.cons ?_ ?_
    · refine OpL.early (by kernel_rfl) (by kernel_rfl) fun ab W hC hB hdep => ?_
      refine .inl ⟨rfl, ?_⟩
      obtain ⟨x0, (q0 : (isRow2 (.slice sa sl sc) (.slice ta tl tc) 26) x0 W), e0⟩ := hdep 10 15 (by kernel_rfl)
      obtain ⟨g0, rfl, hg0⟩ := q0
      clear hB hdep
      refine goes_call (f := 51) (args := #[.slice (some ⟨g0, 0, none⟩) 2 2]) ?_ ?_
      · simp only [execOp]
        go_simp
      · have hW := HB1.out.trans (hC.mono HB1.out.size)
        exact (concatO_any g0 _ _ s t _ W hg0 (HS.out.below hW) (HT.out.below hW) HLN.out.2.1 HLN.out.2.2.2).mono fun e w7 ⟨⟨v7, he, hi⟩, hb⟩ => ⟨v7, he, hC.trans (hb.mono hC.size), hb, own_low hi (Nat.le_trans HB1.out.size hC.size)⟩
    refine AllOps.cons ?_ ?_
    · refine OpL.early (by kernel_rfl) (by kernel_rfl) fun ab W hC hB hdep => ?_
      refine .inl ⟨rfl, ?_⟩
      obtain ⟨x0, (q0 : (isOzW w.heap.size (m ++ n)) x0 W), e0⟩ := hdep 5 10 (by kernel_rfl)
      obtain ⟨ao0, ac0, rfl⟩ := own_dslice q0
      obtain ⟨x1, (q1 : (isOzW w.heap.size (s ++ t)) x1 W), e1⟩ := hdep 11 16 (by kernel_rfl)
      obtain ⟨ao1, ac1, rfl⟩ := own_dslice q1
      clear hB hdep
      refine goes_value (v := .agg #[.slice ao0 (m ++ n).length ac0, .slice ao1 (s ++ t).length ac1]) ?_ hC (WrO.of q0 q1)
      simp only [Array.getD_eq_getD_getElem?] at e0 e1
      simp only [execOp]
      go_simp
    refine AllOps.cons ?_ ?_
    · refine OpL.write (by kernel_rfl) fun vals ab W hC hB hdep => ⟨rfl, ?_⟩
      obtain ⟨(q0 : (isWrO w.heap.size (m ++ n) (s ++ t)) (vals 12) W), e0⟩ := hdep 12 17 (by kernel_rfl)
      generalize vals 12 = x0 at *
      obtain ⟨u0, v0, rfl, hu0, hv0⟩ := Wr.cells (WrO.wr q0)
      obtain ⟨_, uo0, uc0, rfl, _, _⟩ := hu0.cases
      obtain ⟨_, vo0, vc0, rfl, _, _⟩ := hv0.cases
      have b0 : ab.tmps.getD 4 undef = .pointer (some ⟨w.heap.size + 2, 0, none⟩) := hB.off 4 (by kernel_rfl)
      clear hB hdep
      obtain ⟨za, z0, z1, z2⟩ := rowp2 (HRB.out W hC)
      refine writes_skip (w1 := (W.setCell ⟨w.heap.size + 2, 0, none⟩ _).setCell ⟨w.heap.size + 2, 1, none⟩ _) ?_ ⟨_, _, rfl, rfl⟩
      simp only [execOp, Act.eval, e0, b0]
      go_simp
    exact trivial
  · intro vals aa W0 w8 hC hFin hB hall
    obtain ⟨(k12 : (isWrO w.heap.size (m ++ n) (s ++ t)) (vals 12) W0), e12⟩ := hall 12 _ rfl (by decide)
    have s17 : aa.tmps.getD 17 undef = vals 12 := e12 _ rfl
    have s4 : aa.tmps.getD 4 undef = .pointer (some ⟨w.heap.size + 2, 0, none⟩) := hB.off 4 (by kernel_rfl)
    have hsz : aa.tmps.size = 18 := hB.size
    have hdf : aa.defers = [] := hB.defers
    clear hall hB
    obtain ⟨a, b, hab, rfl⟩ := hFin
    have hrow := HRB.out W0 hC
    have hwr : WrO w.heap.size W0 (vals 12) (m ++ n) (s ++ t) := k12
    rw [hab] at hwr
    have hw2 := hwr.fill hrow (by decide) a b
    have hp := putp2 hrow a b
    obtain ⟨p0, p1, _, _⟩ := rowp2 hp
    have hbel : Below w.heap.size w ((W0.setCell ⟨w.heap.size + 2, 0, none⟩ a).setCell ⟨w.heap.size + 2, 1, none⟩ b) := ((HB1.out.trans (hC.mono HB1.out.size)).setCell (by simp) _).setCell (by simp) _
    refine (‹∀ (a : Act) (w : World), Code.wp Tryd.prog _ _ a w → _›) _ _ ?_
    have s4' : aa.tmps[4]?.getD undef = .pointer (some ⟨w.heap.size + 2, 0, none⟩) := by rw [← Array.getD_eq_getD_getElem?]; exact s4
    go_wp2_with fail
    refine bodyPost_ret (v := .agg #[a, b]) (by simp [results, Tryd.results38, go_sem, p0, p1, s4']) hdf ?_
    exact ⟨⟨_, rfl, hw2⟩, hbel⟩
end Go.Proofs.YtbfcbicbeagjkaaDoor
