/- stx.wear at any place of a block. | stx.flatten: each Symbol's wrap is what it means, and no other piece has one. -/
import Derived.Test.YtbfcbicbeagjkaaGreatDoorSxCopy
import Derived.StillTailTactics
namespace Go.Proofs.YtbfcbicbeagjkaaGreatDoor
open Go.RowKit

/-- What wear leaves of the cells. -/
def WearC (cs : Array Value) (off : Nat) (mv sv : Value) (cs' : Array Value) : Prop := cs'.size = cs.size ∧ (∀ i, i ≠ off + 6 → i ≠ off + 7 → cs'[i]? = cs[i]?) ∧ cs'[off + 6]? = some mv ∧ cs'[off + 7]? = some sv
def WearO (g : Nat) (off : Nat) (cs : Array Value) (mv sv : Value) (w : World) (e : Ending) (w' : World) : Prop :=
  e = .returned (.tuple #[]) ∧ (∃ cs', w'.heap[g]? = some (.cells cs' 35 (0, 0)) ∧ WearC cs off mv sv cs') ∧ Keeps (fun b => b ≠ g) w w' ∧ ∀ B, B ≤ g → B ≤ w.heap.size → Below B w w'
set_option maxRecDepth 100000 in
set_option maxHeartbeats 4000000 in
/-- stx.wear. -/
theorem wearO_any (g off : Nat) (cs : Array Value) (mo : Option Addr) (mn mc : Nat) (so : Option Addr) (sn sc : Nat) (w : World) (h : w.heap[g]? = some (.cells cs 35 (0, 0))) (hoff : off + 8 ≤ cs.size) :
    Calls Tryz.prog 56 #[.pointer (some ⟨g, off, none⟩), .agg #[.slice mo mn mc, .slice so sn sc]] w (WearO g off cs (.slice mo mn mc) (.slice so sn sc) w) := by
  have hlt := (Array.getElem?_eq_some_iff.1 h).1
  have hb1 := below1 w (.cells #[.slice mo mn mc, .slice so sn sc] 30)
  have hx1 := heap_alloc_new w (.cells #[.slice mo mn mc, .slice so sn sc] 30)
  have hs1 : (w.alloc (.cells #[.slice mo mn mc, .slice so sn sc] 30)).heap.size = w.heap.size + 1 := by simp
  have hgg := (hb1.block g hlt).trans h
  have HOF := Lib.hid hoff
  clear h hoff
  go_enter Tryz.func56, Tryz.ntmps56
  go_upto_region 1 with fail
  generalize w.alloc (.cells #[.slice mo mn mc, .slice so sn sc] 30) = w1 at *
  have HB1 := Lib.hid hb1
  have HX1 := Lib.hid hx1
  have HG1 := Lib.hid hgg
  have HWX : Hid (w.heap.size < w1.heap.size ∧ w.heap.size ≠ g) := Lib.hid ⟨by omega, by omega⟩
  clear hb1 hx1 hs1 hgg hlt
  refine wp_region_vals (fun L vals W => AllV [some (.pointer (some ⟨g, off, none⟩)), some (.pointer (some ⟨g, off, none⟩)), some (.pointer (some ⟨w.heap.size, 0, none⟩)), some (.slice mo mn mc), some (.pointer (some ⟨w.heap.size, 1, none⟩)), some (.slice so sn sc), some (.pointer (some ⟨g, off, none⟩)), some (.pointer (some ⟨g, off + 6, none⟩)), none, some (.pointer (some ⟨g, off, none⟩)), some (.pointer (some ⟨g, off + 7, none⟩)), none] L vals ∧ ∃ cs2, W.heap[g]? = some (.cells cs2 35 (0, 0)) ∧ cs2.size = cs.size ∧ (∀ i, i ≠ off + 6 → i ≠ off + 7 → cs2[i]? = cs[i]?) ∧ (∃ u, cs2[off + 6]? = some u) ∧ (∃ u, cs2[off + 7]? = some u) ∧ (L 8 = true → cs2[off + 6]? = some (.slice mo mn mc)) ∧ (L 11 = true → cs2[off + 7]? = some (.slice so sn sc)) ∧ Keeps (fun b => b ≠ g) w1 W ∧ ∀ B, B ≤ g → B ≤ w1.heap.size → Below B w1 W) (by kernel_rfl) ?_ (by kernel_rfl) (by kernel_rfl) ?_ ?_
  · have hof := HOF.out
    exact ⟨AllV.start _ _, _, HG1.out, rfl, fun _ _ _ => rfl, ⟨_, Array.getElem?_eq_getElem (by omega)⟩, ⟨_, Array.getElem?_eq_getElem (by omega)⟩, fun h => (by cases h), fun h => (by cases h), Keeps.of_below (Below.refl w1.heap.size w1).drew, fun B h1 h2 => (Below.refl B w1).drew⟩
  · refine AllOps.cons ?_ ?_
    · intro L vals aa W hC hB hL hD hdep
      obtain ⟨hV, cs2, hg, hz, ho, h6, h7, h8, h11, hk, hb⟩ := hC
      refine .inl ⟨rfl, ?_⟩
      have b0 : aa.tmps.getD 0 undef = .pointer (some ⟨g, off, none⟩) := hB.off 0 (by kernel_rfl)
      refine goesV_value (v := .pointer (some ⟨g, off, none⟩)) ?_ ⟨hV.fix rfl, cs2, hg, hz, ho, h6, h7, fun h => h8 (by rwa [updL_ne (by decide)] at h), fun h => h11 (by rwa [updL_ne (by decide)] at h), hk, hb⟩
      simp only [execOp, Act.eval, b0]
      go_simp
    refine AllOps.cons ?_ ?_
    · intro L vals aa W hC hB hL hD hdep
      obtain ⟨hV, cs2, hg, hz, ho, h6, h7, h8, h11, hk, hb⟩ := hC
      refine .inl ⟨rfl, ?_⟩
      have b0 : aa.tmps.getD 0 undef = .pointer (some ⟨g, off, none⟩) := hB.off 0 (by kernel_rfl)
      refine goesV_value (v := .pointer (some ⟨g, off, none⟩)) ?_ ⟨hV.fix rfl, cs2, hg, hz, ho, h6, h7, fun h => h8 (by rwa [updL_ne (by decide)] at h), fun h => h11 (by rwa [updL_ne (by decide)] at h), hk, hb⟩
      simp only [execOp, Act.eval, b0]
      go_simp
    refine AllOps.cons ?_ ?_
    · intro L vals aa W hC hB hL hD hdep
      obtain ⟨hV, cs2, hg, hz, ho, h6, h7, h8, h11, hk, hb⟩ := hC
      refine .inl ⟨rfl, ?_⟩
      have b0 : aa.tmps.getD 3 undef = .pointer (some ⟨w.heap.size, 0, none⟩) := hB.off 3 (by kernel_rfl)
      refine goesV_value (v := .pointer (some ⟨w.heap.size, 0, none⟩)) ?_ ⟨hV.fix rfl, cs2, hg, hz, ho, h6, h7, fun h => h8 (by rwa [updL_ne (by decide)] at h), fun h => h11 (by rwa [updL_ne (by decide)] at h), hk, hb⟩
      simp only [execOp, Act.eval, b0]
      go_simp
    refine AllOps.cons ?_ ?_
    · intro L vals aa W hC hB hL hD hdep
      obtain ⟨hV, cs2, hg, hz, ho, h6, h7, h8, h11, hk, hb⟩ := hC
      refine .inl ⟨rfl, ?_⟩
      have e0 : aa.tmps.getD 6 undef = .pointer (some ⟨w.heap.size, 0, none⟩) := hV.at (j := 2) rfl (hdep 2 6 (by kernel_rfl))
      obtain ⟨c0, c1, _, _⟩ := rowp2d ((hk.2 w.heap.size HWX.out.1 HWX.out.2).trans HX1.out)
      refine goesV_value (v := .slice mo mn mc) ?_ ⟨hV.fix rfl, cs2, hg, hz, ho, h6, h7, fun h => h8 (by rwa [updL_ne (by decide)] at h), fun h => h11 (by rwa [updL_ne (by decide)] at h), hk, hb⟩
      simp only [execOp, Act.eval, e0]
      go_simp
    refine AllOps.cons ?_ ?_
    · intro L vals aa W hC hB hL hD hdep
      obtain ⟨hV, cs2, hg, hz, ho, h6, h7, h8, h11, hk, hb⟩ := hC
      refine .inl ⟨rfl, ?_⟩
      have b0 : aa.tmps.getD 3 undef = .pointer (some ⟨w.heap.size, 0, none⟩) := hB.off 3 (by kernel_rfl)
      refine goesV_value (v := .pointer (some ⟨w.heap.size, 1, none⟩)) ?_ ⟨hV.fix rfl, cs2, hg, hz, ho, h6, h7, fun h => h8 (by rwa [updL_ne (by decide)] at h), fun h => h11 (by rwa [updL_ne (by decide)] at h), hk, hb⟩
      simp only [execOp, Act.eval, b0]
      go_simp
    refine AllOps.cons ?_ ?_
    · intro L vals aa W hC hB hL hD hdep
      obtain ⟨hV, cs2, hg, hz, ho, h6, h7, h8, h11, hk, hb⟩ := hC
      refine .inl ⟨rfl, ?_⟩
      have e0 : aa.tmps.getD 8 undef = .pointer (some ⟨w.heap.size, 1, none⟩) := hV.at (j := 4) rfl (hdep 4 8 (by kernel_rfl))
      obtain ⟨c0, c1, _, _⟩ := rowp2d ((hk.2 w.heap.size HWX.out.1 HWX.out.2).trans HX1.out)
      refine goesV_value (v := .slice so sn sc) ?_ ⟨hV.fix rfl, cs2, hg, hz, ho, h6, h7, fun h => h8 (by rwa [updL_ne (by decide)] at h), fun h => h11 (by rwa [updL_ne (by decide)] at h), hk, hb⟩
      simp only [execOp, Act.eval, e0]
      go_simp
    refine AllOps.cons ?_ ?_
    · intro L vals aa W hC hB hL hD hdep
      obtain ⟨hV, cs2, hg, hz, ho, h6, h7, h8, h11, hk, hb⟩ := hC
      refine .inl ⟨rfl, ?_⟩
      have e0 : aa.tmps.getD 4 undef = .pointer (some ⟨g, off, none⟩) := hV.at (j := 0) rfl (hdep 0 4 (by kernel_rfl))
      refine goesV_value (v := .pointer (some ⟨g, off, none⟩)) ?_ ⟨hV.fix rfl, cs2, hg, hz, ho, h6, h7, fun h => h8 (by rwa [updL_ne (by decide)] at h), fun h => h11 (by rwa [updL_ne (by decide)] at h), hk, hb⟩
      simp only [execOp, Act.eval, e0]
      go_simp
    refine AllOps.cons ?_ ?_
    · intro L vals aa W hC hB hL hD hdep
      obtain ⟨hV, cs2, hg, hz, ho, h6, h7, h8, h11, hk, hb⟩ := hC
      refine .inl ⟨rfl, ?_⟩
      have e0 : aa.tmps.getD 10 undef = .pointer (some ⟨g, off, none⟩) := hV.at (j := 6) rfl (hdep 6 10 (by kernel_rfl))
      refine goesV_value (v := .pointer (some ⟨g, off + 6, none⟩)) ?_ ⟨hV.fix rfl, cs2, hg, hz, ho, h6, h7, fun h => h8 (by rwa [updL_ne (by decide)] at h), fun h => h11 (by rwa [updL_ne (by decide)] at h), hk, hb⟩
      simp only [execOp, Act.eval, e0]
      go_simp
    refine AllOps.cons ?_ ?_
    · intro L vals aa W hC hB hL hD hdep
      obtain ⟨hV, cs2, hg, hz, ho, h6, h7, h8, h11, hk, hb⟩ := hC
      refine .inl ⟨rfl, ?_⟩
      have e0 : aa.tmps.getD 11 undef = .pointer (some ⟨g, off + 6, none⟩) := hV.at (j := 7) rfl (hdep 7 11 (by kernel_rfl))
      have e1 : aa.tmps.getD 7 undef = .slice mo mn mc := hV.at (j := 3) rfl (hdep 3 7 (by kernel_rfl))
      obtain ⟨u, hu⟩ := h6
      have c := (cell_heap hg (off + 6)).trans hu
      have z := frozen_heap hg (off + 6)
      have hlt := (Array.getElem?_eq_some_iff.1 hu).1
      refine goesV_skip (w1 := W.setCell ⟨g, off + 6, none⟩ (.slice mo mn mc)) ?_ ⟨hV.free rfl, _, rowSet hg (off + 6) (.slice mo mn mc), by rw [Array.size_setIfInBounds]; exact hz, fun i i6 i7 => (Array.getElem?_setIfInBounds_ne (by omega)).trans (ho i i6 i7), ⟨_, Array.getElem?_setIfInBounds_self_of_lt hlt⟩, (by obtain ⟨u2, hu2⟩ := h7; exact ⟨u2, (Array.getElem?_setIfInBounds_ne (by omega)).trans hu2⟩), fun _ => Array.getElem?_setIfInBounds_self_of_lt hlt, fun h => (Array.getElem?_setIfInBounds_ne (by omega)).trans (h11 (by rwa [updL_ne (by decide)] at h)), hk.set (by simp) _, fun B h1 h2 => (hb B h1 h2).setCell h1 _⟩
      simp only [execOp, Act.eval, e0, e1]
      go_simp
    refine AllOps.cons ?_ ?_
    · intro L vals aa W hC hB hL hD hdep
      obtain ⟨hV, cs2, hg, hz, ho, h6, h7, h8, h11, hk, hb⟩ := hC
      refine .inl ⟨rfl, ?_⟩
      have e0 : aa.tmps.getD 5 undef = .pointer (some ⟨g, off, none⟩) := hV.at (j := 1) rfl (hdep 1 5 (by kernel_rfl))
      refine goesV_value (v := .pointer (some ⟨g, off, none⟩)) ?_ ⟨hV.fix rfl, cs2, hg, hz, ho, h6, h7, fun h => h8 (by rwa [updL_ne (by decide)] at h), fun h => h11 (by rwa [updL_ne (by decide)] at h), hk, hb⟩
      simp only [execOp, Act.eval, e0]
      go_simp
    refine AllOps.cons ?_ ?_
    · intro L vals aa W hC hB hL hD hdep
      obtain ⟨hV, cs2, hg, hz, ho, h6, h7, h8, h11, hk, hb⟩ := hC
      refine .inl ⟨rfl, ?_⟩
      have e0 : aa.tmps.getD 12 undef = .pointer (some ⟨g, off, none⟩) := hV.at (j := 9) rfl (hdep 9 12 (by kernel_rfl))
      refine goesV_value (v := .pointer (some ⟨g, off + 7, none⟩)) ?_ ⟨hV.fix rfl, cs2, hg, hz, ho, h6, h7, fun h => h8 (by rwa [updL_ne (by decide)] at h), fun h => h11 (by rwa [updL_ne (by decide)] at h), hk, hb⟩
      simp only [execOp, Act.eval, e0]
      go_simp
    refine AllOps.cons ?_ ?_
    · intro L vals aa W hC hB hL hD hdep
      obtain ⟨hV, cs2, hg, hz, ho, h6, h7, h8, h11, hk, hb⟩ := hC
      refine .inl ⟨rfl, ?_⟩
      have e0 : aa.tmps.getD 13 undef = .pointer (some ⟨g, off + 7, none⟩) := hV.at (j := 10) rfl (hdep 10 13 (by kernel_rfl))
      have e1 : aa.tmps.getD 9 undef = .slice so sn sc := hV.at (j := 5) rfl (hdep 5 9 (by kernel_rfl))
      obtain ⟨u, hu⟩ := h7
      have c := (cell_heap hg (off + 7)).trans hu
      have z := frozen_heap hg (off + 7)
      have hlt := (Array.getElem?_eq_some_iff.1 hu).1
      refine goesV_skip (w1 := W.setCell ⟨g, off + 7, none⟩ (.slice so sn sc)) ?_ ⟨hV.free rfl, _, rowSet hg (off + 7) (.slice so sn sc), by rw [Array.size_setIfInBounds]; exact hz, fun i i6 i7 => (Array.getElem?_setIfInBounds_ne (by omega)).trans (ho i i6 i7), (by obtain ⟨u2, hu2⟩ := h6; exact ⟨u2, (Array.getElem?_setIfInBounds_ne (by omega)).trans hu2⟩), ⟨_, Array.getElem?_setIfInBounds_self_of_lt hlt⟩, fun h => (Array.getElem?_setIfInBounds_ne (by omega)).trans (h8 (by rwa [updL_ne (by decide)] at h)), fun _ => Array.getElem?_setIfInBounds_self_of_lt hlt, hk.set (by simp) _, fun B h1 h2 => (hb B h1 h2).setCell h1 _⟩
      simp only [execOp, Act.eval, e0, e1]
      go_simp
    exact trivial
  · intro L vals aa w8 hC hLL hB hall
    obtain ⟨hV, cs2, hg, hz, ho, h6, h7, h8, h11, hk, hb⟩ := hC
    have h8 := h8 (hLL 8 (Nat.le_of_ble_eq_true rfl))
    have h11 := h11 (hLL 11 (Nat.le_of_ble_eq_true rfl))
    have hv : ∀ p ∈ [((4 : Nat), (.pointer (some ⟨g, off, none⟩) : Value)), ((5 : Nat), (.pointer (some ⟨g, off, none⟩) : Value)), ((6 : Nat), (.pointer (some ⟨w.heap.size, 0, none⟩) : Value)), ((7 : Nat), (.slice mo mn mc : Value)), ((8 : Nat), (.pointer (some ⟨w.heap.size, 1, none⟩) : Value)), ((9 : Nat), (.slice so sn sc : Value)), ((10 : Nat), (.pointer (some ⟨g, off, none⟩) : Value)), ((11 : Nat), (.pointer (some ⟨g, off + 6, none⟩) : Value)), ((12 : Nat), (.pointer (some ⟨g, off, none⟩) : Value)), ((13 : Nat), (.pointer (some ⟨g, off + 7, none⟩) : Value))], aa.tmps.getD p.1 undef = p.2 := by
      intro p hp
      simp only [List.mem_cons, List.not_mem_nil, or_false] at hp
      rcases hp with rfl | rfl | rfl | rfl | rfl | rfl | rfl | rfl | rfl | rfl
      · exact (hall 0 _ rfl _ rfl).trans (hV 0 _ rfl (hLL 0 (Nat.le_of_ble_eq_true rfl)))
      · exact (hall 1 _ rfl _ rfl).trans (hV 1 _ rfl (hLL 1 (Nat.le_of_ble_eq_true rfl)))
      · exact (hall 2 _ rfl _ rfl).trans (hV 2 _ rfl (hLL 2 (Nat.le_of_ble_eq_true rfl)))
      · exact (hall 3 _ rfl _ rfl).trans (hV 3 _ rfl (hLL 3 (Nat.le_of_ble_eq_true rfl)))
      · exact (hall 4 _ rfl _ rfl).trans (hV 4 _ rfl (hLL 4 (Nat.le_of_ble_eq_true rfl)))
      · exact (hall 5 _ rfl _ rfl).trans (hV 5 _ rfl (hLL 5 (Nat.le_of_ble_eq_true rfl)))
      · exact (hall 6 _ rfl _ rfl).trans (hV 6 _ rfl (hLL 6 (Nat.le_of_ble_eq_true rfl)))
      · exact (hall 7 _ rfl _ rfl).trans (hV 7 _ rfl (hLL 7 (Nat.le_of_ble_eq_true rfl)))
      · exact (hall 9 _ rfl _ rfl).trans (hV 9 _ rfl (hLL 9 (Nat.le_of_ble_eq_true rfl)))
      · exact (hall 10 _ rfl _ rfl).trans (hV 10 _ rfl (hLL 10 (Nat.le_of_ble_eq_true rfl)))
    have hact := act_fold _ hB hv (by kernel_rfl)
    subst hact
    have hex : ∃ cs', w8.heap[g]? = some (.cells cs' 35 (0, 0)) ∧ WearC cs off (.slice mo mn mc) (.slice so sn sc) cs' := ⟨cs2, hg, hz, ho, h8, h11⟩
    have HFN := Lib.hid (And.intro hex (And.intro hk hb))
    clear hv hall hB hV hLL h8 h11 hg hk hb h6 h7 ho hz hex
    go_end0
    exact ⟨rfl, HFN.out.1, ⟨Nat.le_trans HB1.out.size HFN.out.2.1.1, fun b hb hne => (HFN.out.2.1.2 b (Nat.lt_of_lt_of_le hb HB1.out.size) hne).trans (HB1.out.block b hb)⟩, fun B h1 h2 => (HB1.out.mono h2).trans (HFN.out.2.2 B h1 (Nat.le_trans h2 HB1.out.size))⟩
end Go.Proofs.YtbfcbicbeagjkaaGreatDoor
namespace Go.Proofs.YtbfcbicbeagjkaaGreatDoor
open Go.RowKit

def isJnO (B : Nat) (r : List Int × List Int × Int) : Value → World → Prop := fun v W => ∃ x, v = .tuple #[x, .int .i64 r.2.2] ∧ WrO B W x r.1 r.2.1
theorem isJnO_stays (B : Nat) (r : List Int × List Int × Int) : Stays (isJnO B r) := fun _ _ _ hb ⟨x, h1, h2⟩ => ⟨x, h1, h2.below hb⟩
def isBoxW (B : Nat) : Value → World → Prop := fun v W => ∃ g, v = .pointer (some ⟨g, 0, none⟩) ∧ B ≤ g ∧ W.heap[g]? = some (.cells #[.slice none 0 0, .slice none 0 0] 30 (0, 0))
theorem isBoxW_stays (B : Nat) : Stays (isBoxW B) := fun _ _ _ hb ⟨g, h1, h2, h3⟩ => ⟨g, h1, h2, (hb.block g (Array.getElem?_eq_some_iff.1 h3).1).trans h3⟩
def FillsW : Value → Value → World → World → Prop := fun p v W0 W' => ∃ g a b, p = .pointer (some ⟨g, 0, none⟩) ∧ v = .agg #[a, b] ∧ W' = (W0.setCell ⟨g, 0, none⟩ a).setCell ⟨g, 1, none⟩ b
/-- What stands behind 'w, _ := Join(..)'. -/
theorem fillsO_end {w1 W0 W' : World} {B : Nat} {p v : Value} {m s : List Int} (hC : Below B w1 W0) (hF : FillsW p v W0 W') (hb : isBoxW B p W0) (hw : isWrO B m s v W0) : ∃ g o1 c1 o2 c2, p = .pointer (some ⟨g, 0, none⟩) ∧ v = .agg #[.slice o1 m.length c1, .slice o2 s.length c2] ∧ B ≤ g ∧ W'.heap[g]? = some (.cells #[.slice o1 m.length c1, .slice o2 s.length c2] 30 (0, 0)) ∧ W'.ownsRow B 3 1 (.slice o1 m.length c1) m.length (ic m) ∧ W'.ownsRow B 3 1 (.slice o2 s.length c2) s.length (ic s) ∧ Below B w1 W' := by
  obtain ⟨g, a, b, hp, hv, rfl⟩ := hF
  obtain ⟨g', hp', hge, hg⟩ := hb
  rw [hp] at hp'
  injection hp' with hp'
  injection hp' with hp'
  injection hp' with hp'
  subst hp'
  have hw' : WrO B W0 v m s := hw
  rw [hv] at hw'
  obtain ⟨mv, sv, e, hu, ht⟩ := hw'.own
  injection e with e
  injection e with e
  injection e with e1 e2
  injection e2 with e2
  subst e1 e2
  obtain ⟨o1, c1, e1⟩ := own_dslice hu
  obtain ⟨o2, c2, e2⟩ := own_dslice ht
  subst e1 e2
  exact ⟨g, o1, c1, o2, c2, hp, hv, hge, putp2d hg _ _, own_fill hu hg (by decide) _ _, own_fill ht hg (by decide) _ _, below_fill2 hC hge _ _⟩
/-- What stays while the pieces in one are changed. -/
structure FlI (w w8 : World) (S : Nat → Prop) (g : Nat) (cs : Array Value) (lv : Value) (r : List Nat) (wr : World) : Prop where
  gx : wr.heap[g]? = some (.cells cs 35 (0, 0))
  lr : wr.ownsRow 0 140 1 lv r.length (ucs r)
  keep : Keeps (fun c => ¬ S c ∧ c ≠ g) w wr
  bel : ∀ B, B ≤ g → B ≤ w.heap.size → (∀ b, S b → B ≤ b) → Below B w wr
  ge : w8.heap.size ≤ wr.heap.size
theorem FlI.step {w w8 wr wr' : World} {S F : Nat → Prop} {g b : Nat} {cs : Array Value} {lv : Value} {r : List Nat} (h : FlI w w8 S g cs lv r wr) (hF : ∀ c, F c → S c) (hb : S b) (hg : ¬ S g) (hlv : ∀ c, lv.ownBlock = some c → ¬ F c ∧ c ≠ b) (hk : Keeps (fun c => ¬ F c ∧ c ≠ b) wr wr') (hB : ∀ B, B ≤ b → B ≤ wr.heap.size → (∀ c, F c → B ≤ c) → Below B wr wr') : FlI w w8 S g cs lv r wr' :=
  ⟨(hk.2 _ (Array.getElem?_eq_some_iff.1 h.gx).1 ⟨fun e => hg (hF g e), fun e => hg (e ▸ hb)⟩).trans h.gx, ownsRow_keep h.lr hk hlv, h.keep.trans (hk.mono fun c _ hc => ⟨fun e => hc.1 (hF c e), fun e => hc.1 (e ▸ hb)⟩),
   fun B h1 h2 h3 => (h.bel B h1 h2 h3).trans (hB B (h3 b hb) (Nat.le_trans h2 h.keep.1) fun c hc => h3 c (hF c hc)), Nat.le_trans h.ge hk.1⟩
/-- A box of a wrap, and its rows. -/
structure BxW (w1 : World) (q : Nat) (mv sv : Value) (m s : List Int) (wr : World) : Prop where
  qx : wr.heap[q]? = some (.cells #[mv, sv] 30 (0, 0))
  mr : wr.ownsRow w1.heap.size 3 1 mv m.length (ic m)
  sr : wr.ownsRow w1.heap.size 3 1 sv s.length (ic s)
theorem BxW.step {w1 wr wr' : World} {q : Nat} {mv sv : Value} {m s : List Int} (h : BxW w1 q mv sv m s wr) {P : Nat → Prop} (hk : Keeps P wr wr') (hq : w1.heap.size ≤ q) (hP : ∀ c, w1.heap.size ≤ c → c < wr.heap.size → P c) : BxW w1 q mv sv m s wr' :=
  ⟨(hk.2 _ (Array.getElem?_eq_some_iff.1 h.qx).1 (hP q hq (Array.getElem?_eq_some_iff.1 h.qx).1)).trans h.qx, ownsRow_keep h.mr hk fun c hc => hP c (h.mr.lt c hc).1 (h.mr.lt c hc).2, ownsRow_keep h.sr hk fun c hc => hP c (h.sr.lt c hc).1 (h.sr.lt c hc).2⟩
theorem BxW.wr {w1 wr : World} {q : Nat} {mv sv : Value} {m s : List Int} (h : BxW w1 q mv sv m s wr) : Wr wr (.agg #[mv, sv]) m s := ⟨_, _, rfl, Iz.of_own h.mr, Iz.of_own h.sr⟩
def FltPost (E : Sx) (S : Nat → Prop) (g off : Nat) (cs : Array Value) (w : World) (e : Ending) (w' : World) : Prop :=
  e = .returned (.tuple #[]) ∧ (∃ cs' us', ∃ S' : Nat → Prop, w'.heap[g]? = some (.cells cs' 35 (0, 0)) ∧ cs'.size = cs.size ∧ (∀ i, i < off ∨ off + 8 ≤ i → cs'[i]? = cs[i]?) ∧ (cs'.toList.drop off).take 8 = us' ∧ SOwn w' S' E us' ∧ ∀ b, S' b → (S b ∨ w.heap.size ≤ b) ∧ b < w'.heap.size) ∧ Keeps (fun b => ¬ S b ∧ b ≠ g) w w' ∧ ∀ B, B ≤ g → B ≤ w.heap.size → (∀ b, S b → B ≤ b) → Below B w w'
/-- The pieces of a row, as the row has them. -/
def lfn (l : List Sx) (D : Sx) : Nat → Sx := fun i => l.getD i D
theorem lfn_at {l : List Sx} {D : Sx} {i : Nat} (h : i < l.length) : lfn l D i = l[i]'h := by unfold lfn; rw [List.getD_eq_getElem?_getD, List.getElem?_eq_getElem h]; rfl
theorem row_of {w : World} {b cap : Nat} {cur : Array Value} {l : List Sx} {us : List Value} {S : Nat → Prop} {Fc : Nat → Nat → Prop} {D : Sx} (hblk : w.heap[b]? = some (.cells cur 35 (0, 0))) (hnc : l.length ≤ cap) (hcs : cur.size = cap * 8) (htk : cur.toList.take (l.length * 8) = us)
    (hin : ∀ (i : Nat) (h : i < l.length), SOwn w (Fc i) (l[i]'h) ((us.drop (i * 8)).take 8)) (hdis : ∀ i j c, i ≠ j → Fc i c → ¬ Fc j c) (hoff : ∀ i, ¬ Fc i b) (hsub : ∀ i c, Fc i c → S c) (hS : ∀ c, S c → c < w.heap.size) : RowO w b cur (lfn l D) l.length Fc :=
  ⟨hblk, by omega, fun i hi => by rw [lfn_at hi, ← take_drop8 hi, htk]; exact hin i hi, hdis, hoff, fun i c hc => hS c (hsub i c hc)⟩
theorem wear_cells {cs cs' : Array Value} {off : Nat} {a0 a1 a2 a3 a4 a5 a6 a7 mv sv : Value} (h : (cs.toList.drop off).take 8 = [a0, a1, a2, a3, a4, a5, a6, a7]) (hw : WearC cs off mv sv cs') : (cs'.toList.drop off).take 8 = [a0, a1, a2, a3, a4, a5, mv, sv] := by
  obtain ⟨_, ho, h6, h7⟩ := hw
  obtain ⟨c0, c1, c2, c3, c4, c5, _, _⟩ := cells8_at h
  simp only [Array.getElem?_toList] at c0 c1 c2 c3 c4 c5
  refine at_cells8 ?_ ?_ ?_ ?_ ?_ ?_ ?_ ?_ <;> rw [Array.getElem?_toList]
  · exact (ho off (by omega) (by omega)).trans c0
  · exact (ho _ (by omega) (by omega)).trans c1
  · exact (ho _ (by omega) (by omega)).trans c2
  · exact (ho _ (by omega) (by omega)).trans c3
  · exact (ho _ (by omega) (by omega)).trans c4
  · exact (ho _ (by omega) (by omega)).trans c5
  · exact h6
  · exact h7
/-- The cells of a piece at a place of a block. -/
theorem cells_of {w : World} {g off : Nat} {cs : Array Value} {a0 a1 a2 a3 a4 a5 a6 a7 : Value} {e : TypeId} (hg : w.heap[g]? = some (.cells cs e (0, 0))) (h : (cs.toList.drop off).take 8 = [a0, a1, a2, a3, a4, a5, a6, a7]) : w.cell? ⟨g, off, none⟩ = some a0 ∧ w.cell? ⟨g, off + 1, none⟩ = some a1 ∧ w.cell? ⟨g, off + 2, none⟩ = some a2 ∧ w.cell? ⟨g, off + 3, none⟩ = some a3 ∧ w.cell? ⟨g, off + 4, none⟩ = some a4 ∧ w.cell? ⟨g, off + 5, none⟩ = some a5 ∧ w.cell? ⟨g, off + 6, none⟩ = some a6 ∧ w.cell? ⟨g, off + 7, none⟩ = some a7 := by
  obtain ⟨c0, c1, c2, c3, c4, c5, c6, c7⟩ := cells8_at h
  simp only [Array.getElem?_toList] at c0 c1 c2 c3 c4 c5 c6 c7
  exact ⟨(cell_heap hg _).trans c0, (cell_heap hg _).trans c1, (cell_heap hg _).trans c2, (cell_heap hg _).trans c3, (cell_heap hg _).trans c4, (cell_heap hg _).trans c5, (cell_heap hg _).trans c6, (cell_heap hg _).trans c7⟩

end Go.Proofs.YtbfcbicbeagjkaaGreatDoor
