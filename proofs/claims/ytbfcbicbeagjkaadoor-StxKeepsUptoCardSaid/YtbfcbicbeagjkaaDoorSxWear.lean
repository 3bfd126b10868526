/- stx.wear at any place of a block. -/
import Derived.Test.YtbfcbicbeagjkaaDoorSxCopy
namespace Go.Proofs.YtbfcbicbeagjkaaDoor
open Go.RowKit

/-- What wear leaves of the cells. -/
def WearC (cs : Array Value) (off : Nat) (mv sv : Value) (cs' : Array Value) : Prop := cs'.size = cs.size ∧ (∀ i, i ≠ off + 6 → i ≠ off + 7 → cs'[i]? = cs[i]?) ∧ cs'[off + 6]? = some mv ∧ cs'[off + 7]? = some sv
def WearO (g : Nat) (off : Nat) (cs : Array Value) (mv sv : Value) (w : World) (e : Ending) (w' : World) : Prop :=
  e = .returned (.tuple #[]) ∧ (∃ cs', w'.heap[g]? = some (.cells cs' 28 (0, 0)) ∧ WearC cs off mv sv cs') ∧ Keeps (fun b => b ≠ g) w w' ∧ ∀ B, B ≤ g → B ≤ w.heap.size → Below B w w'
set_option maxRecDepth 100000 in
set_option maxHeartbeats 4000000 in
/-- stx.wear. -/
theorem wearO_any (g off : Nat) (cs : Array Value) (mo : Option Addr) (mn mc : Nat) (so : Option Addr) (sn sc : Nat) (w : World) (h : w.heap[g]? = some (.cells cs 28 (0, 0))) (hoff : off + 8 ≤ cs.size) :
    Calls Tryd.prog 20 #[.pointer (some ⟨g, off, none⟩), .agg #[.slice mo mn mc, .slice so sn sc]] w (WearO g off cs (.slice mo mn mc) (.slice so sn sc) w) := by
  have hlt := (Array.getElem?_eq_some_iff.1 h).1
  have hb1 := below1 w (.cells #[.slice mo mn mc, .slice so sn sc] 30)
  have hx1 := heap_alloc_new w (.cells #[.slice mo mn mc, .slice so sn sc] 30)
  have hs1 : (w.alloc (.cells #[.slice mo mn mc, .slice so sn sc] 30)).heap.size = w.heap.size + 1 := by simp
  have hgg := (hb1.block g hlt).trans h
  have HOF := Lib.hid hoff
  clear h hoff
  go_enter Tryd.func20, Tryd.ntmps20
  go_upto_region 1 with fail
  generalize w.alloc (.cells #[.slice mo mn mc, .slice so sn sc] 30) = w1 at *
  have HB1 := Lib.hid hb1
  have HX1 := Lib.hid hx1
  have HG1 := Lib.hid hgg
  have HWX : Hid (w.heap.size < w1.heap.size ∧ w.heap.size ≠ g) := Lib.hid ⟨by omega, by omega⟩
  clear hb1 hx1 hs1 hgg hlt
  refine wp_region_vals (fun L vals W => AllV [some (.pointer (some ⟨g, off, none⟩)), some (.pointer (some ⟨g, off, none⟩)), some (.pointer (some ⟨w.heap.size, 0, none⟩)), some (.slice mo mn mc), some (.pointer (some ⟨w.heap.size, 1, none⟩)), some (.slice so sn sc), some (.pointer (some ⟨g, off, none⟩)), some (.pointer (some ⟨g, off + 6, none⟩)), none, some (.pointer (some ⟨g, off, none⟩)), some (.pointer (some ⟨g, off + 7, none⟩)), none] L vals ∧ ∃ cs2, W.heap[g]? = some (.cells cs2 28 (0, 0)) ∧ cs2.size = cs.size ∧ (∀ i, i ≠ off + 6 → i ≠ off + 7 → cs2[i]? = cs[i]?) ∧ (∃ u, cs2[off + 6]? = some u) ∧ (∃ u, cs2[off + 7]? = some u) ∧ (L 8 = true → cs2[off + 6]? = some (.slice mo mn mc)) ∧ (L 11 = true → cs2[off + 7]? = some (.slice so sn sc)) ∧ Keeps (fun b => b ≠ g) w1 W ∧ ∀ B, B ≤ g → B ≤ w1.heap.size → Below B w1 W) (by kernel_rfl) ?_ (by kernel_rfl) (by kernel_rfl) ?_ ?_
  · have hof := HOF.out
    exact ⟨AllV.start _ _, _, HG1.out, rfl, fun _ _ _ => rfl, ⟨_, Array.getElem?_eq_getElem (by omega)⟩, ⟨_, Array.getElem?_eq_getElem (by omega)⟩, fun h => (by cases h), fun h => (by cases h), Keeps.of_below (Below.refl w1.heap.size w1).drew, fun B h1 h2 => (Below.refl B w1).drew⟩
  · refine AllOps.cons ?_ ?_
    · intro L vals aa W hC hB hL hD hdep
      obtain ⟨hV, cs2, hg, hz, ho, h6, h7, h8, h11, hk, hb⟩ := hC
      refine .inl ⟨rfl, ?_⟩
      have b0 : aa.tmps.getD 0 undef = .pointer (some ⟨g, off, none⟩) := hB.off 0 (by kernel_rfl)
      refine goesV_value (v := .pointer (some ⟨g, off, none⟩)) ?_ ⟨hV.fix rfl, cs2, hg, hz, ho, h6, h7, fun h => h8 (by rwa [updL_ne (by decide)] at h), fun h => h11 (by rwa [updL_ne (by decide)] at h), hk, hb⟩
      simp only [execOp, Act.eval, b0]
      go_simp
    refine AllOps.cons ?_ ?_
    · intro L vals aa W hC hB hL hD hdep
      obtain ⟨hV, cs2, hg, hz, ho, h6, h7, h8, h11, hk, hb⟩ := hC
      refine .inl ⟨rfl, ?_⟩
      have b0 : aa.tmps.getD 0 undef = .pointer (some ⟨g, off, none⟩) := hB.off 0 (by kernel_rfl)
      refine goesV_value (v := .pointer (some ⟨g, off, none⟩)) ?_ ⟨hV.fix rfl, cs2, hg, hz, ho, h6, h7, fun h => h8 (by rwa [updL_ne (by decide)] at h), fun h => h11 (by rwa [updL_ne (by decide)] at h), hk, hb⟩
      simp only [execOp, Act.eval, b0]
      go_simp
    refine AllOps.cons ?_ ?_
    · intro L vals aa W hC hB hL hD hdep
      obtain ⟨hV, cs2, hg, hz, ho, h6, h7, h8, h11, hk, hb⟩ := hC
      refine .inl ⟨rfl, ?_⟩
      have b0 : aa.tmps.getD 3 undef = .pointer (some ⟨w.heap.size, 0, none⟩) := hB.off 3 (by kernel_rfl)
      refine goesV_value (v := .pointer (some ⟨w.heap.size, 0, none⟩)) ?_ ⟨hV.fix rfl, cs2, hg, hz, ho, h6, h7, fun h => h8 (by rwa [updL_ne (by decide)] at h), fun h => h11 (by rwa [updL_ne (by decide)] at h), hk, hb⟩
      simp only [execOp, Act.eval, b0]
      go_simp
    refine AllOps.cons ?_ ?_
    · intro L vals aa W hC hB hL hD hdep
      obtain ⟨hV, cs2, hg, hz, ho, h6, h7, h8, h11, hk, hb⟩ := hC
      refine .inl ⟨rfl, ?_⟩
      have e0 : aa.tmps.getD 6 undef = .pointer (some ⟨w.heap.size, 0, none⟩) := hV.at (j := 2) rfl (hdep 2 6 (by kernel_rfl))
      obtain ⟨c0, c1, _, _⟩ := rowp2d ((hk.2 w.heap.size HWX.out.1 HWX.out.2).trans HX1.out)
      refine goesV_value (v := .slice mo mn mc) ?_ ⟨hV.fix rfl, cs2, hg, hz, ho, h6, h7, fun h => h8 (by rwa [updL_ne (by decide)] at h), fun h => h11 (by rwa [updL_ne (by decide)] at h), hk, hb⟩
      simp only [execOp, Act.eval, e0]
      go_simp
    refine AllOps.cons ?_ ?_
    · intro L vals aa W hC hB hL hD hdep
      obtain ⟨hV, cs2, hg, hz, ho, h6, h7, h8, h11, hk, hb⟩ := hC
      refine .inl ⟨rfl, ?_⟩
      have b0 : aa.tmps.getD 3 undef = .pointer (some ⟨w.heap.size, 0, none⟩) := hB.off 3 (by kernel_rfl)
      refine goesV_value (v := .pointer (some ⟨w.heap.size, 1, none⟩)) ?_ ⟨hV.fix rfl, cs2, hg, hz, ho, h6, h7, fun h => h8 (by rwa [updL_ne (by decide)] at h), fun h => h11 (by rwa [updL_ne (by decide)] at h), hk, hb⟩
      simp only [execOp, Act.eval, b0]
      go_simp
    refine AllOps.cons ?_ ?_
    · intro L vals aa W hC hB hL hD hdep
      obtain ⟨hV, cs2, hg, hz, ho, h6, h7, h8, h11, hk, hb⟩ := hC
      refine .inl ⟨rfl, ?_⟩
      have e0 : aa.tmps.getD 8 undef = .pointer (some ⟨w.heap.size, 1, none⟩) := hV.at (j := 4) rfl (hdep 4 8 (by kernel_rfl))
      obtain ⟨c0, c1, _, _⟩ := rowp2d ((hk.2 w.heap.size HWX.out.1 HWX.out.2).trans HX1.out)
      refine goesV_value (v := .slice so sn sc) ?_ ⟨hV.fix rfl, cs2, hg, hz, ho, h6, h7, fun h => h8 (by rwa [updL_ne (by decide)] at h), fun h => h11 (by rwa [updL_ne (by decide)] at h), hk, hb⟩
      simp only [execOp, Act.eval, e0]
      go_simp
    refine AllOps.cons ?_ ?_
    · intro L vals aa W hC hB hL hD hdep
      obtain ⟨hV, cs2, hg, hz, ho, h6, h7, h8, h11, hk, hb⟩ := hC
      refine .inl ⟨rfl, ?_⟩
      have e0 : aa.tmps.getD 4 undef = .pointer (some ⟨g, off, none⟩) := hV.at (j := 0) rfl (hdep 0 4 (by kernel_rfl))
      refine goesV_value (v := .pointer (some ⟨g, off, none⟩)) ?_ ⟨hV.fix rfl, cs2, hg, hz, ho, h6, h7, fun h => h8 (by rwa [updL_ne (by decide)] at h), fun h => h11 (by rwa [updL_ne (by decide)] at h), hk, hb⟩
      simp only [execOp, Act.eval, e0]
      go_simp
    refine AllOps.cons ?_ ?_
    · intro L vals aa W hC hB hL hD hdep
      obtain ⟨hV, cs2, hg, hz, ho, h6, h7, h8, h11, hk, hb⟩ := hC
      refine .inl ⟨rfl, ?_⟩
      have e0 : aa.tmps.getD 10 undef = .pointer (some ⟨g, off, none⟩) := hV.at (j := 6) rfl (hdep 6 10 (by kernel_rfl))
      refine goesV_value (v := .pointer (some ⟨g, off + 6, none⟩)) ?_ ⟨hV.fix rfl, cs2, hg, hz, ho, h6, h7, fun h => h8 (by rwa [updL_ne (by decide)] at h), fun h => h11 (by rwa [updL_ne (by decide)] at h), hk, hb⟩
      simp only [execOp, Act.eval, e0]
      go_simp
    refine AllOps.cons ?_ ?_
    · intro L vals aa W hC hB hL hD hdep
      obtain ⟨hV, cs2, hg, hz, ho, h6, h7, h8, h11, hk, hb⟩ := hC
      refine .inl ⟨rfl, ?_⟩
      have e0 : aa.tmps.getD 11 undef = .pointer (some ⟨g, off + 6, none⟩) := hV.at (j := 7) rfl (hdep 7 11 (by kernel_rfl))
      have e1 : aa.tmps.getD 7 undef = .slice mo mn mc := hV.at (j := 3) rfl (hdep 3 7 (by kernel_rfl))
      obtain ⟨u, hu⟩ := h6
      have c := (cell_heap hg (off + 6)).trans hu
      have z := frozen_heap hg (off + 6)
      have hlt := (Array.getElem?_eq_some_iff.1 hu).1
      refine goesV_skip (w1 := W.setCell ⟨g, off + 6, none⟩ (.slice mo mn mc)) ?_ ⟨hV.free rfl, _, rowSet hg (off + 6) (.slice mo mn mc), by rw [Array.size_setIfInBounds]; exact hz, fun i i6 i7 => (Array.getElem?_setIfInBounds_ne (by omega)).trans (ho i i6 i7), ⟨_, Array.getElem?_setIfInBounds_self_of_lt hlt⟩, (by obtain ⟨u2, hu2⟩ := h7; exact ⟨u2, (Array.getElem?_setIfInBounds_ne (by omega)).trans hu2⟩), fun _ => Array.getElem?_setIfInBounds_self_of_lt hlt, fun h => (Array.getElem?_setIfInBounds_ne (by omega)).trans (h11 (by rwa [updL_ne (by decide)] at h)), hk.set (by simp) _, fun B h1 h2 => (hb B h1 h2).setCell h1 _⟩
      simp only [execOp, Act.eval, e0, e1]
      go_simp
    refine AllOps.cons ?_ ?_
    · intro L vals aa W hC hB hL hD hdep
      obtain ⟨hV, cs2, hg, hz, ho, h6, h7, h8, h11, hk, hb⟩ := hC
      refine .inl ⟨rfl, ?_⟩
      have e0 : aa.tmps.getD 5 undef = .pointer (some ⟨g, off, none⟩) := hV.at (j := 1) rfl (hdep 1 5 (by kernel_rfl))
      refine goesV_value (v := .pointer (some ⟨g, off, none⟩)) ?_ ⟨hV.fix rfl, cs2, hg, hz, ho, h6, h7, fun h => h8 (by rwa [updL_ne (by decide)] at h), fun h => h11 (by rwa [updL_ne (by decide)] at h), hk, hb⟩
      simp only [execOp, Act.eval, e0]
      go_simp
    refine AllOps.cons ?_ ?_
    · intro L vals aa W hC hB hL hD hdep
      obtain ⟨hV, cs2, hg, hz, ho, h6, h7, h8, h11, hk, hb⟩ := hC
      refine .inl ⟨rfl, ?_⟩
      have e0 : aa.tmps.getD 12 undef = .pointer (some ⟨g, off, none⟩) := hV.at (j := 9) rfl (hdep 9 12 (by kernel_rfl))
      refine goesV_value (v := .pointer (some ⟨g, off + 7, none⟩)) ?_ ⟨hV.fix rfl, cs2, hg, hz, ho, h6, h7, fun h => h8 (by rwa [updL_ne (by decide)] at h), fun h => h11 (by rwa [updL_ne (by decide)] at h), hk, hb⟩
      simp only [execOp, Act.eval, e0]
      go_simp
    refine AllOps.cons ?_ ?_
    · intro L vals aa W hC hB hL hD hdep
      obtain ⟨hV, cs2, hg, hz, ho, h6, h7, h8, h11, hk, hb⟩ := hC
      refine .inl ⟨rfl, ?_⟩
      have e0 : aa.tmps.getD 13 undef = .pointer (some ⟨g, off + 7, none⟩) := hV.at (j := 10) rfl (hdep 10 13 (by kernel_rfl))
      have e1 : aa.tmps.getD 9 undef = .slice so sn sc := hV.at (j := 5) rfl (hdep 5 9 (by kernel_rfl))
      obtain ⟨u, hu⟩ := h7
      have c := (cell_heap hg (off + 7)).trans hu
      have z := frozen_heap hg (off + 7)
      have hlt := (Array.getElem?_eq_some_iff.1 hu).1
      refine goesV_skip (w1 := W.setCell ⟨g, off + 7, none⟩ (.slice so sn sc)) ?_ ⟨hV.free rfl, _, rowSet hg (off + 7) (.slice so sn sc), by rw [Array.size_setIfInBounds]; exact hz, fun i i6 i7 => (Array.getElem?_setIfInBounds_ne (by omega)).trans (ho i i6 i7), (by obtain ⟨u2, hu2⟩ := h6; exact ⟨u2, (Array.getElem?_setIfInBounds_ne (by omega)).trans hu2⟩), ⟨_, Array.getElem?_setIfInBounds_self_of_lt hlt⟩, fun h => (Array.getElem?_setIfInBounds_ne (by omega)).trans (h8 (by rwa [updL_ne (by decide)] at h)), fun _ => Array.getElem?_setIfInBounds_self_of_lt hlt, hk.set (by simp) _, fun B h1 h2 => (hb B h1 h2).setCell h1 _⟩
      simp only [execOp, Act.eval, e0, e1]
      go_simp
    exact trivial
  · intro L vals aa w8 hC hLL hB hall
    obtain ⟨hV, cs2, hg, hz, ho, h6, h7, h8, h11, hk, hb⟩ := hC
    have h8 := h8 (hLL 8 (Nat.le_of_ble_eq_true rfl))
    have h11 := h11 (hLL 11 (Nat.le_of_ble_eq_true rfl))
    have hv : ∀ p ∈ [((4 : Nat), (.pointer (some ⟨g, off, none⟩) : Value)), ((5 : Nat), (.pointer (some ⟨g, off, none⟩) : Value)), ((6 : Nat), (.pointer (some ⟨w.heap.size, 0, none⟩) : Value)), ((7 : Nat), (.slice mo mn mc : Value)), ((8 : Nat), (.pointer (some ⟨w.heap.size, 1, none⟩) : Value)), ((9 : Nat), (.slice so sn sc : Value)), ((10 : Nat), (.pointer (some ⟨g, off, none⟩) : Value)), ((11 : Nat), (.pointer (some ⟨g, off + 6, none⟩) : Value)), ((12 : Nat), (.pointer (some ⟨g, off, none⟩) : Value)), ((13 : Nat), (.pointer (some ⟨g, off + 7, none⟩) : Value))], aa.tmps.getD p.1 undef = p.2 := by
      intro p hp
      simp only [List.mem_cons, List.not_mem_nil, or_false] at hp
      rcases hp with rfl | rfl | rfl | rfl | rfl | rfl | rfl | rfl | rfl | rfl
      · exact (hall 0 _ rfl _ rfl).trans (hV 0 _ rfl (hLL 0 (Nat.le_of_ble_eq_true rfl)))
      · exact (hall 1 _ rfl _ rfl).trans (hV 1 _ rfl (hLL 1 (Nat.le_of_ble_eq_true rfl)))
      · exact (hall 2 _ rfl _ rfl).trans (hV 2 _ rfl (hLL 2 (Nat.le_of_ble_eq_true rfl)))
      · exact (hall 3 _ rfl _ rfl).trans (hV 3 _ rfl (hLL 3 (Nat.le_of_ble_eq_true rfl)))
      · exact (hall 4 _ rfl _ rfl).trans (hV 4 _ rfl (hLL 4 (Nat.le_of_ble_eq_true rfl)))
      · exact (hall 5 _ rfl _ rfl).trans (hV 5 _ rfl (hLL 5 (Nat.le_of_ble_eq_true rfl)))
      · exact (hall 6 _ rfl _ rfl).trans (hV 6 _ rfl (hLL 6 (Nat.le_of_ble_eq_true rfl)))
      · exact (hall 7 _ rfl _ rfl).trans (hV 7 _ rfl (hLL 7 (Nat.le_of_ble_eq_true rfl)))
      · exact (hall 9 _ rfl _ rfl).trans (hV 9 _ rfl (hLL 9 (Nat.le_of_ble_eq_true rfl)))
      · exact (hall 10 _ rfl _ rfl).trans (hV 10 _ rfl (hLL 10 (Nat.le_of_ble_eq_true rfl)))
    have hact := act_fold _ hB hv (by kernel_rfl)
    subst hact
    have hex : ∃ cs', w8.heap[g]? = some (.cells cs' 28 (0, 0)) ∧ WearC cs off (.slice mo mn mc) (.slice so sn sc) cs' := ⟨cs2, hg, hz, ho, h8, h11⟩
    have HFN := Lib.hid (And.intro hex (And.intro hk hb))
    clear hv hall hB hV hLL h8 h11 hg hk hb h6 h7 ho hz hex
    go_end0
    exact ⟨rfl, HFN.out.1, ⟨Nat.le_trans HB1.out.size HFN.out.2.1.1, fun b hb hne => (HFN.out.2.1.2 b (Nat.lt_of_lt_of_le hb HB1.out.size) hne).trans (HB1.out.block b hb)⟩, fun B h1 h2 => (HB1.out.mono h2).trans (HFN.out.2.2 B h1 (Nat.le_trans h2 HB1.out.size))⟩
end Go.Proofs.YtbfcbicbeagjkaaDoor
