/- maps.Clone of the labels; Copy; what is asked of no ribs at all. -/
import Derived.Test.YtegengnffdlplaaGreatDoorRbFresh
import Derived.Test.YtegengnffdlplaaGreatDoorRbFnd
import Derived.Test.YtegengnffdlplaaGreatDoorOrdV
import Derived.Laws.Externs
namespace Go.Proofs.YtegengnffdlplaaGreatDoor
open Go.RowKit

theorem run_cloneE {r : Nat} {es : Array MapEntry} {clock : Nat} {w : World} (t : TypeId) (hb : w.heap[r]? = some (.map es clock)) :
    (Extern.MapsClone.clone #[.iface t (.map (some r))]).run Tryz.prog w = .ok (.iface t (.map (some w.heap.size))) (w.alloc (.map es clock)) := by
  have e : Extern.MapsClone.clone #[.iface t (.map (some r))] = (getObj r >>= fun o => match o with
      | .map entries clock => (newObj (.map entries clock) >>= fun n => pure (.iface t (.map (some n))))
      | _ => stuck "maps.clone: a map expected") := rfl
  rw [e]
  simp [MapKept.run_getObj_map hb, Result.andThen, go_sem]
set_option maxRecDepth 100000 in
theorem run_as_mapE (x : TypeId) (v : Value) (w : World) : (Instr.typeAssert (.iface 60 v) x 60 false).run Tryz.prog w = .ok v w := by
  simp [Instr.typeAssert, run_underlying Tryz.underlying60, go_sem, Result.andThen]
set_option maxRecDepth 100000 in
set_option maxHeartbeats 2000000 in
theorem mcloneE_any (b : Nat) (tk : Ek → Option Int) (w : World) (h : MapE w b tk) :
    Calls Tryz.prog 32 #[.map (some b)] w fun e w' => e = .returned (.map (some w.heap.size)) ∧ MapE w' w.heap.size tk ∧ Below w.heap.size w w' := by
  obtain ⟨es, clock, hb, hs⟩ := h
  have hq : ∀ (w : World), (binOp .eql 60 (.map (some b)) (.map none)).run Tryz.prog w = .ok (.bool false) w := fun w => by kernel_rfl
  have hf : Tryz.prog.funcs[45]? = some Tryz.f45 := by kernel_rfl
  have HS := Lib.hid hs
  clear hs
  go_enter Tryz.func32, Tryz.ntmps32
  go_wp2
  rw [run_callFunc_extern hf (by kernel_rfl) (by kernel_rfl) (by kernel_rfl) (e := Extern.MapsClone.clone) (by kernel_rfl), run_cloneE _ hb]
  simp only [Result.andThen]
  rw [Oper.upon_value]
  go_wp2
  rw [run_as_mapE]
  simp only [Result.andThen]
  rw [Oper.upon_value]
  go_wp2
  go_ret
  exact ⟨rfl, ⟨es, clock, heap_alloc_new w _, HS.out⟩, below1 w _⟩
set_option maxRecDepth 100000 in
theorem mcloneE_nil (w : World) : Calls Tryz.prog 32 #[.map none] w fun e w' => e = .returned (.map none) ∧ w' = w := by
  have hq : ∀ (w : World), (binOp .eql 60 (.map none) (.map none)).run Tryz.prog w = .ok (.bool true) w := fun w => by kernel_rfl
  go_enter Tryz.func32, Tryz.ntmps32
  go_wp2
  go_ret
  exact ⟨rfl, rfl⟩

/-- What Copy answers. -/
def CpPost (ob : Option Nat) (R G : Nat) (tk : Ek → Option Int) (w : World) (e : Ending) (w' : World) : Prop := e = .returned (.pointer (some ⟨w.heap.size, 0, none⟩)) ∧ (∃ ob', RbW w' w.heap.size ob' R G tk ∧ (∀ b, ob' = some b → w.heap.size ≤ b) ∧ (ob = none → ob' = none)) ∧ Below w.heap.size w w'
set_option maxRecDepth 100000 in
set_option maxHeartbeats 4000000 in
/-- Copy. -/
theorem rcopy_any (w : World) (g : Nat) (ob : Option Nat) (R G : Nat) (tk : Ek → Option Int) (h : RbW w g ob R G tk) :
    Calls Tryz.prog 20 #[.pointer (some ⟨g, 0, none⟩)] w (CpPost ob R G tk w) := by
  have H := Lib.hid h
  clear h
  go_enter Tryz.func20, Tryz.ntmps20
  go_wp2_with fail
  refine (new_any w).mono ?_
  rintro e w1 ⟨rfl, hr1, hb1⟩
  have HB1 := Lib.hid hb1
  have HC1 := Lib.hid hr1.box
  have HR1 := Lib.hid (H.out.below hb1)
  clear hb1 hr1
  go_upto_region 4 with fail
  refine wp_region_vals (fun L vals W => AllV [some (.pointer (some ⟨w.heap.size, 0, none⟩)), some (.pointer (some ⟨w.heap.size, 0, none⟩)), some (.pointer (some ⟨w.heap.size, 0, none⟩)), some (.pointer (some ⟨g, 0, none⟩)), some (.pointer (some ⟨g, 0, none⟩)), some (.pointer (some ⟨g, 0, none⟩)), some (.int .i64 (R : Nat)), some (.tuple #[])] L vals ∧ Ph 6 7 (fun W => Below w1.heap.size w1 W) (fun _ W => Below w1.heap.size w1 W) (fun _ W => ∃ W0, Below w1.heap.size w1 W0 ∧ W = W0.setCell ⟨w.heap.size, 0, none⟩ (.int .i64 (R : Nat))) L vals W) (by kernel_rfl) ?_ (by kernel_rfl) (by kernel_rfl) ?_ ?_
  · exact ⟨AllV.start _ _, Ph.start (Below.refl _ _).drew⟩
  · refine AllOps.cons ?_ ?_
    · intro L vals aa W hC hB hL hD hdep
      obtain ⟨hV, hP0⟩ := hC
      refine .inl ⟨rfl, ?_⟩
      have b0 : aa.tmps.getD 3 undef = .pointer (some ⟨w.heap.size, 0, none⟩) := hB.off 3 (by kernel_rfl)
      refine goesV_value (v := .pointer (some ⟨w.heap.size, 0, none⟩)) ?_ ⟨hV.fix rfl, hP0.idle (by decide) (by decide) _⟩
      simp only [execOp, Act.eval, b0]
      go_simp
    refine AllOps.cons ?_ ?_
    · intro L vals aa W hC hB hL hD hdep
      obtain ⟨hV, hP0⟩ := hC
      refine .inl ⟨rfl, ?_⟩
      have e0 : aa.tmps.getD 7 undef = .pointer (some ⟨w.heap.size, 0, none⟩) := hV.at (j := 0) rfl (hdep 0 7 (by kernel_rfl))
      refine goesV_value (v := .pointer (some ⟨w.heap.size, 0, none⟩)) ?_ ⟨hV.fix rfl, hP0.idle (by decide) (by decide) _⟩
      simp only [execOp, Act.eval, e0]
      go_simp
    refine AllOps.cons ?_ ?_
    · intro L vals aa W hC hB hL hD hdep
      obtain ⟨hV, hP0⟩ := hC
      refine .inl ⟨rfl, ?_⟩
      have e0 : aa.tmps.getD 8 undef = .pointer (some ⟨w.heap.size, 0, none⟩) := hV.at (j := 1) rfl (hdep 1 8 (by kernel_rfl))
      refine goesV_value (v := .pointer (some ⟨w.heap.size, 0, none⟩)) ?_ ⟨hV.fix rfl, hP0.idle (by decide) (by decide) _⟩
      simp only [execOp, Act.eval, e0]
      go_simp
    refine AllOps.cons ?_ ?_
    · intro L vals aa W hC hB hL hD hdep
      obtain ⟨hV, hP0⟩ := hC
      refine .inl ⟨rfl, ?_⟩
      have b0 : aa.tmps.getD 0 undef = .pointer (some ⟨g, 0, none⟩) := hB.off 0 (by kernel_rfl)
      refine goesV_value (v := .pointer (some ⟨g, 0, none⟩)) ?_ ⟨hV.fix rfl, hP0.idle (by decide) (by decide) _⟩
      simp only [execOp, Act.eval, b0]
      go_simp
    refine AllOps.cons ?_ ?_
    · intro L vals aa W hC hB hL hD hdep
      obtain ⟨hV, hP0⟩ := hC
      refine .inl ⟨rfl, ?_⟩
      have e0 : aa.tmps.getD 10 undef = .pointer (some ⟨g, 0, none⟩) := hV.at (j := 3) rfl (hdep 3 10 (by kernel_rfl))
      refine goesV_value (v := .pointer (some ⟨g, 0, none⟩)) ?_ ⟨hV.fix rfl, hP0.idle (by decide) (by decide) _⟩
      simp only [execOp, Act.eval, e0]
      go_simp
    refine AllOps.cons ?_ ?_
    · intro L vals aa W hC hB hL hD hdep
      obtain ⟨hV, hP0⟩ := hC
      refine .inl ⟨rfl, ?_⟩
      have e0 : aa.tmps.getD 11 undef = .pointer (some ⟨g, 0, none⟩) := hV.at (j := 4) rfl (hdep 4 11 (by kernel_rfl))
      refine goesV_value (v := .pointer (some ⟨g, 0, none⟩)) ?_ ⟨hV.fix rfl, hP0.idle (by decide) (by decide) _⟩
      simp only [execOp, Act.eval, e0]
      go_simp
    refine AllOps.cons ?_ ?_
    · intro L vals aa W hC hB hL hD hdep
      obtain ⟨hV, hP0⟩ := hC
      refine .inl ⟨rfl, ?_⟩
      have e0 : aa.tmps.getD 12 undef = .pointer (some ⟨g, 0, none⟩) := hV.at (j := 5) rfl (hdep 5 12 (by kernel_rfl))
      have hpre := hP0.pre hL
      have hbx := (HR1.out.below hpre).box
      refine goesV_call (f := 31) (args := #[.pointer (some ⟨g, 0, none⟩)]) ?_ ?_
      · simp only [execOp]
        go_simp
      · exact (aload_any W g 0 _ (cell_heap hbx 0)).mono fun e w7 ⟨he, hw⟩ => by subst hw; exact ⟨_, he, hV.fix rfl, hP0.first hL (by decide) hpre⟩
    refine AllOps.cons ?_ ?_
    · intro L vals aa W hC hB hL hD hdep
      obtain ⟨hV, hP0⟩ := hC
      refine .inl ⟨rfl, ?_⟩
      have e0 : aa.tmps.getD 9 undef = .pointer (some ⟨w.heap.size, 0, none⟩) := hV.at (j := 2) rfl (hdep 2 9 (by kernel_rfl))
      have e1 : aa.tmps.getD 13 undef = .int .i64 (R : Nat) := hV.at (j := 6) rfl (hdep 6 13 (by kernel_rfl))
      have hl6 := (hdep 6 13 (by kernel_rfl)).1
      have hmid := hP0.mid hl6 hL
      have hz := (hmid.block _ (Array.getElem?_eq_some_iff.1 HC1.out).1).trans HC1.out
      refine goesV_call (f := 30) (args := #[.pointer (some ⟨w.heap.size, 0, none⟩), .int .i64 (R : Nat)]) ?_ ?_
      · simp only [execOp]
        go_simp
      · exact (astore_any W w.heap.size 0 0 _ (cell_heap hz 0) (frozen_heap hz 0)).mono fun e w7 ⟨he, hw⟩ => ⟨_, he, hV.fix rfl, Ph.last hl6 (by decide) _ ⟨W, hmid, hw.symm⟩⟩
    exact trivial
  · intro L vals aa w8 hC hLL hB hall
    obtain ⟨hV, hP0⟩ := hC
    have hv : ∀ p ∈ [((7 : Nat), (.pointer (some ⟨w.heap.size, 0, none⟩) : Value)), ((8 : Nat), (.pointer (some ⟨w.heap.size, 0, none⟩) : Value)), ((9 : Nat), (.pointer (some ⟨w.heap.size, 0, none⟩) : Value)), ((10 : Nat), (.pointer (some ⟨g, 0, none⟩) : Value)), ((11 : Nat), (.pointer (some ⟨g, 0, none⟩) : Value)), ((12 : Nat), (.pointer (some ⟨g, 0, none⟩) : Value)), ((13 : Nat), (.int .i64 (R : Nat) : Value)), ((14 : Nat), (.tuple #[] : Value))], aa.tmps.getD p.1 undef = p.2 := by
      intro p hp
      simp only [List.mem_cons, List.not_mem_nil, or_false] at hp
      rcases hp with rfl | rfl | rfl | rfl | rfl | rfl | rfl | rfl
      · exact (hall 0 _ rfl _ rfl).trans (hV 0 _ rfl (hLL 0 (Nat.le_of_ble_eq_true rfl)))
      · exact (hall 1 _ rfl _ rfl).trans (hV 1 _ rfl (hLL 1 (Nat.le_of_ble_eq_true rfl)))
      · exact (hall 2 _ rfl _ rfl).trans (hV 2 _ rfl (hLL 2 (Nat.le_of_ble_eq_true rfl)))
      · exact (hall 3 _ rfl _ rfl).trans (hV 3 _ rfl (hLL 3 (Nat.le_of_ble_eq_true rfl)))
      · exact (hall 4 _ rfl _ rfl).trans (hV 4 _ rfl (hLL 4 (Nat.le_of_ble_eq_true rfl)))
      · exact (hall 5 _ rfl _ rfl).trans (hV 5 _ rfl (hLL 5 (Nat.le_of_ble_eq_true rfl)))
      · exact (hall 6 _ rfl _ rfl).trans (hV 6 _ rfl (hLL 6 (Nat.le_of_ble_eq_true rfl)))
      · exact (hall 7 _ rfl _ rfl).trans (hV 7 _ rfl (hLL 7 (Nat.le_of_ble_eq_true rfl)))
    have hact := act_fold _ hB hv (by kernel_rfl)
    subst hact
    have hfin := hP0.fin (hLL 7 (Nat.le_of_ble_eq_true rfl))
    clear hv hall hB hV hLL hP0
    refine (‹∀ (a : Act) (w : World), Code.wp Tryz.prog _ _ a w → _›) _ w8 ?_
    simp only [List.foldl, List.setIfInBounds_toArray, List.set_cons_succ, List.set_cons_zero]
    obtain ⟨W0, hC0, rfl⟩ := hfin
    have hb2 : Below w.heap.size w (W0.setCell ⟨w.heap.size, 0, none⟩ (.int .i64 (R : Nat))) := (HB1.out.trans (hC0.mono HB1.out.size)).setCell (by simp) _
    have hc2 : (W0.setCell ⟨w.heap.size, 0, none⟩ (.int .i64 (R : Nat))).heap[w.heap.size]? = some (.cells #[.int .i64 (R : Nat), .int .i64 0, .map none] 62 (0, 0)) := (rowSet ((hC0.block _ (Array.getElem?_eq_some_iff.1 HC1.out).1).trans HC1.out) 0 _).trans (by simp)
    generalize W0.setCell ⟨w.heap.size, 0, none⟩ (.int .i64 (R : Nat)) = w2 at *
    have HB2 := Lib.hid hb2
    have HC2 := Lib.hid hc2
    have HR2 := Lib.hid (H.out.below hb2)
    clear hb2 hc2 hC0 HB1 HC1 HR1
    go_upto_region 5 with fail
    refine wp_region_vals (fun L vals W => AllV [some (.pointer (some ⟨w.heap.size, 0, none⟩)), some (.pointer (some ⟨w.heap.size, 0, none⟩)), some (.pointer (some ⟨w.heap.size, 1, none⟩)), some (.pointer (some ⟨g, 0, none⟩)), some (.pointer (some ⟨g, 0, none⟩)), some (.pointer (some ⟨g, 1, none⟩)), some (.int .i64 (G : Nat)), some (.tuple #[])] L vals ∧ Ph 6 7 (fun W => Below w2.heap.size w2 W) (fun _ W => Below w2.heap.size w2 W) (fun _ W => ∃ W0, Below w2.heap.size w2 W0 ∧ W = W0.setCell ⟨w.heap.size, 1, none⟩ (.int .i64 (G : Nat))) L vals W) (by kernel_rfl) ?_ (by kernel_rfl) (by kernel_rfl) ?_ ?_
    · exact ⟨AllV.start _ _, Ph.start (Below.refl _ _).drew⟩
    · refine AllOps.cons ?_ ?_
      · intro L vals aa W hC hB hL hD hdep
        obtain ⟨hV, hP0⟩ := hC
        refine .inl ⟨rfl, ?_⟩
        have b0 : aa.tmps.getD 3 undef = .pointer (some ⟨w.heap.size, 0, none⟩) := hB.off 3 (by kernel_rfl)
        refine goesV_value (v := .pointer (some ⟨w.heap.size, 0, none⟩)) ?_ ⟨hV.fix rfl, hP0.idle (by decide) (by decide) _⟩
        simp only [execOp, Act.eval, b0]
        go_simp
      refine AllOps.cons ?_ ?_
      · intro L vals aa W hC hB hL hD hdep
        obtain ⟨hV, hP0⟩ := hC
        refine .inl ⟨rfl, ?_⟩
        have e0 : aa.tmps.getD 15 undef = .pointer (some ⟨w.heap.size, 0, none⟩) := hV.at (j := 0) rfl (hdep 0 15 (by kernel_rfl))
        refine goesV_value (v := .pointer (some ⟨w.heap.size, 0, none⟩)) ?_ ⟨hV.fix rfl, hP0.idle (by decide) (by decide) _⟩
        simp only [execOp, Act.eval, e0]
        go_simp
      refine AllOps.cons ?_ ?_
      · intro L vals aa W hC hB hL hD hdep
        obtain ⟨hV, hP0⟩ := hC
        refine .inl ⟨rfl, ?_⟩
        have e0 : aa.tmps.getD 16 undef = .pointer (some ⟨w.heap.size, 0, none⟩) := hV.at (j := 1) rfl (hdep 1 16 (by kernel_rfl))
        refine goesV_value (v := .pointer (some ⟨w.heap.size, 1, none⟩)) ?_ ⟨hV.fix rfl, hP0.idle (by decide) (by decide) _⟩
        simp only [execOp, Act.eval, e0]
        go_simp
      refine AllOps.cons ?_ ?_
      · intro L vals aa W hC hB hL hD hdep
        obtain ⟨hV, hP0⟩ := hC
        refine .inl ⟨rfl, ?_⟩
        have b0 : aa.tmps.getD 0 undef = .pointer (some ⟨g, 0, none⟩) := hB.off 0 (by kernel_rfl)
        refine goesV_value (v := .pointer (some ⟨g, 0, none⟩)) ?_ ⟨hV.fix rfl, hP0.idle (by decide) (by decide) _⟩
        simp only [execOp, Act.eval, b0]
        go_simp
      refine AllOps.cons ?_ ?_
      · intro L vals aa W hC hB hL hD hdep
        obtain ⟨hV, hP0⟩ := hC
        refine .inl ⟨rfl, ?_⟩
        have e0 : aa.tmps.getD 18 undef = .pointer (some ⟨g, 0, none⟩) := hV.at (j := 3) rfl (hdep 3 18 (by kernel_rfl))
        refine goesV_value (v := .pointer (some ⟨g, 0, none⟩)) ?_ ⟨hV.fix rfl, hP0.idle (by decide) (by decide) _⟩
        simp only [execOp, Act.eval, e0]
        go_simp
      refine AllOps.cons ?_ ?_
      · intro L vals aa W hC hB hL hD hdep
        obtain ⟨hV, hP0⟩ := hC
        refine .inl ⟨rfl, ?_⟩
        have e0 : aa.tmps.getD 19 undef = .pointer (some ⟨g, 0, none⟩) := hV.at (j := 4) rfl (hdep 4 19 (by kernel_rfl))
        refine goesV_value (v := .pointer (some ⟨g, 1, none⟩)) ?_ ⟨hV.fix rfl, hP0.idle (by decide) (by decide) _⟩
        simp only [execOp, Act.eval, e0]
        go_simp
      refine AllOps.cons ?_ ?_
      · intro L vals aa W hC hB hL hD hdep
        obtain ⟨hV, hP0⟩ := hC
        refine .inl ⟨rfl, ?_⟩
        have e0 : aa.tmps.getD 20 undef = .pointer (some ⟨g, 1, none⟩) := hV.at (j := 5) rfl (hdep 5 20 (by kernel_rfl))
        have hpre := hP0.pre hL
        have hbx := (HR2.out.below hpre).box
        refine goesV_call (f := 31) (args := #[.pointer (some ⟨g, 1, none⟩)]) ?_ ?_
        · simp only [execOp]
          go_simp
        · exact (aload_any W g 1 _ (cell_heap hbx 1)).mono fun e w7 ⟨he, hw⟩ => by subst hw; exact ⟨_, he, hV.fix rfl, hP0.first hL (by decide) hpre⟩
      refine AllOps.cons ?_ ?_
      · intro L vals aa W hC hB hL hD hdep
        obtain ⟨hV, hP0⟩ := hC
        refine .inl ⟨rfl, ?_⟩
        have e0 : aa.tmps.getD 17 undef = .pointer (some ⟨w.heap.size, 1, none⟩) := hV.at (j := 2) rfl (hdep 2 17 (by kernel_rfl))
        have e1 : aa.tmps.getD 21 undef = .int .i64 (G : Nat) := hV.at (j := 6) rfl (hdep 6 21 (by kernel_rfl))
        have hl6 := (hdep 6 21 (by kernel_rfl)).1
        have hmid := hP0.mid hl6 hL
        have hz := (hmid.block _ (Array.getElem?_eq_some_iff.1 HC2.out).1).trans HC2.out
        refine goesV_call (f := 30) (args := #[.pointer (some ⟨w.heap.size, 1, none⟩), .int .i64 (G : Nat)]) ?_ ?_
        · simp only [execOp]
          go_simp
        · exact (astore_any W w.heap.size 1 0 _ (cell_heap hz 1) (frozen_heap hz 1)).mono fun e w7 ⟨he, hw⟩ => ⟨_, he, hV.fix rfl, Ph.last hl6 (by decide) _ ⟨W, hmid, hw.symm⟩⟩
      exact trivial
    · intro L vals aa w8 hC hLL hB hall
      obtain ⟨hV, hP0⟩ := hC
      have hv : ∀ p ∈ [((15 : Nat), (.pointer (some ⟨w.heap.size, 0, none⟩) : Value)), ((16 : Nat), (.pointer (some ⟨w.heap.size, 0, none⟩) : Value)), ((17 : Nat), (.pointer (some ⟨w.heap.size, 1, none⟩) : Value)), ((18 : Nat), (.pointer (some ⟨g, 0, none⟩) : Value)), ((19 : Nat), (.pointer (some ⟨g, 0, none⟩) : Value)), ((20 : Nat), (.pointer (some ⟨g, 1, none⟩) : Value)), ((21 : Nat), (.int .i64 (G : Nat) : Value)), ((22 : Nat), (.tuple #[] : Value))], aa.tmps.getD p.1 undef = p.2 := by
        intro p hp
        simp only [List.mem_cons, List.not_mem_nil, or_false] at hp
        rcases hp with rfl | rfl | rfl | rfl | rfl | rfl | rfl | rfl
        · exact (hall 0 _ rfl _ rfl).trans (hV 0 _ rfl (hLL 0 (Nat.le_of_ble_eq_true rfl)))
        · exact (hall 1 _ rfl _ rfl).trans (hV 1 _ rfl (hLL 1 (Nat.le_of_ble_eq_true rfl)))
        · exact (hall 2 _ rfl _ rfl).trans (hV 2 _ rfl (hLL 2 (Nat.le_of_ble_eq_true rfl)))
        · exact (hall 3 _ rfl _ rfl).trans (hV 3 _ rfl (hLL 3 (Nat.le_of_ble_eq_true rfl)))
        · exact (hall 4 _ rfl _ rfl).trans (hV 4 _ rfl (hLL 4 (Nat.le_of_ble_eq_true rfl)))
        · exact (hall 5 _ rfl _ rfl).trans (hV 5 _ rfl (hLL 5 (Nat.le_of_ble_eq_true rfl)))
        · exact (hall 6 _ rfl _ rfl).trans (hV 6 _ rfl (hLL 6 (Nat.le_of_ble_eq_true rfl)))
        · exact (hall 7 _ rfl _ rfl).trans (hV 7 _ rfl (hLL 7 (Nat.le_of_ble_eq_true rfl)))
      have hact := act_fold _ hB hv (by kernel_rfl)
      subst hact
      have hfin := hP0.fin (hLL 7 (Nat.le_of_ble_eq_true rfl))
      clear hv hall hB hV hLL hP0
      refine (‹∀ (a : Act) (w : World), Code.wp Tryz.prog _ _ a w → _›) _ w8 ?_
      simp only [List.foldl, List.setIfInBounds_toArray, List.set_cons_succ, List.set_cons_zero]
      obtain ⟨W0, hC0, rfl⟩ := hfin
      have hb3 : Below w.heap.size w (W0.setCell ⟨w.heap.size, 1, none⟩ (.int .i64 (G : Nat))) := (HB2.out.trans (hC0.mono HB2.out.size)).setCell (by simp) _
      have hc3 : (W0.setCell ⟨w.heap.size, 1, none⟩ (.int .i64 (G : Nat))).heap[w.heap.size]? = some (.cells #[.int .i64 (R : Nat), .int .i64 (G : Nat), .map none] 62 (0, 0)) := (rowSet ((hC0.block _ (Array.getElem?_eq_some_iff.1 HC2.out).1).trans HC2.out) 1 _).trans (by simp)
      generalize W0.setCell ⟨w.heap.size, 1, none⟩ (.int .i64 (G : Nat)) = w3 at *
      have HB3 := Lib.hid hb3
      have HC3 := Lib.hid hc3
      have HR3 := Lib.hid (H.out.below hb3)
      clear hb3 hc3 hC0 HB2 HC2 HR2
      have d2 := cell_heap HR3.out.box 2
      cases ob with
      | none =>
        have z2 := frozen_heap HC3.out 2
        go_wp2_with fail
        refine (mcloneE_nil w3).mono ?_
        rintro e w4 ⟨rfl, rfl⟩
        have c2 := cell_heap HC3.out 2
        go_wp2_with fail
        go_ret
        exact ⟨rfl, ⟨none, ⟨(rowSet HC3.out 2 _).trans (by simp), fun _ => HR3.out.non rfl, fun b h => by cases h⟩, fun b h => (by cases h), fun _ => rfl⟩, HB3.out.setCell (by simp) _⟩
      | some mb =>
        go_wp2_with fail
        refine (mcloneE_any mb tk w3 (HR3.out.map mb rfl).2).mono ?_
        rintro e w4 ⟨rfl, hm4, hb4⟩
        have HM4 := Lib.hid hm4
        have HC4 := Lib.hid ((hb4.block _ (Array.getElem?_eq_some_iff.1 HC3.out).1).trans HC3.out)
        have HB4 := Lib.hid (HB3.out.trans (hb4.mono HB3.out.size))
        have HNE : Hid (w3.heap.size ≠ w.heap.size ∧ w.heap.size ≤ w3.heap.size) := Lib.hid ⟨by have := (Array.getElem?_eq_some_iff.1 HC3.out).1; omega, HB3.out.size⟩
        have c2 := cell_heap HC4.out 2
        have z2 := frozen_heap HC4.out 2
        clear hm4 hb4
        go_wp2_with fail
        go_ret
        exact ⟨rfl, ⟨some w3.heap.size, ⟨(rowSet HC4.out 2 _).trans (by simp), fun h => (by cases h), fun b h => by cases h; exact ⟨HNE.out.1, HM4.out.move (Below.heap_setCell _ _ _ _ HNE.out.1)⟩⟩, fun b h => (by cases h; exact HNE.out.2), fun h => by cases h⟩, HB4.out.setCell (by simp) _⟩

set_option maxRecDepth 100000 in
theorem copy_nil (w : World) : Calls Tryz.prog 20 #[.pointer none] w fun e w' => e = .returned (.pointer none) ∧ Below w.heap.size w w' := by
  have HB := Lib.hid (Below.refl w.heap.size w)
  go_enter Tryz.func20, Tryz.ntmps20
  go_wp2_with fail
  go_ret
  exact ⟨rfl, HB.out⟩
set_option maxRecDepth 100000 in
theorem rib_nil (w : World) : Calls Tryz.prog 19 #[.pointer none] w fun e w' => e = .returned (.int .i64 0) ∧ Below w.heap.size w w' := by
  have HB := Lib.hid (Below.refl w.heap.size w)
  go_enter Tryz.func19, Tryz.ntmps19
  go_wp2_with fail
  go_ret
  exact ⟨rfl, HB.out⟩
set_option maxRecDepth 100000 in
theorem fresh_nil (w : World) : Calls Tryz.prog 18 #[.pointer none] w fun e w' => e = .returned (.int .i64 0) ∧ Below w.heap.size w w' := by
  have HB := Lib.hid (Below.refl w.heap.size w)
  go_enter Tryz.func18, Tryz.ntmps18
  go_wp2_with fail
  go_ret
  exact ⟨rfl, HB.out⟩
set_option maxRecDepth 100000 in
theorem find_nil (kx : Int) (tx : ByteArray) (nx : Bool) (xo : Option Addr) (xn xc : Nat) (yo : Option Addr) (yn yc : Nat) (ax : Int) (po : Option Addr) (pn pc : Nat) (qo : Option Addr) (qn qc : Nat) (w : World) : Calls Tryz.prog 9 #[.pointer none, .agg #[.int .i64 kx, .string tx, .bool nx, .slice xo xn xc, .slice yo yn yc, .int .i64 ax, .slice po pn pc, .slice qo qn qc]] w fun e w' => e = .returned (.tuple #[.int .i64 0, .int .i64 1]) ∧ Below w.heap.size w w' := by
  have HB := Lib.hid (below1 w (.cells #[.int .i64 kx, .string tx, .bool nx, .slice xo xn xc, .slice yo yn yc, .int .i64 ax, .slice po pn pc, .slice qo qn qc] 29))
  go_enter Tryz.func9, Tryz.ntmps9
  go_wp2_with fail
  refine bodyPost_ret (v := .tuple #[.int .i64 0, .int .i64 1]) (by simp [results, Tryz.results9, go_sem]) rfl ?_
  exact ⟨rfl, HB.out⟩
set_option maxRecDepth 100000 in
theorem put_nil (kx : Int) (tx : ByteArray) (nx : Bool) (xo : Option Addr) (xn xc : Nat) (yo : Option Addr) (yn yc : Nat) (ax : Int) (po : Option Addr) (pn pc : Nat) (qo : Option Addr) (qn qc : Nat) (b c : Int) (w : World) : Calls Tryz.prog 21 #[.pointer none, .int .i64 b, .agg #[.int .i64 kx, .string tx, .bool nx, .slice xo xn xc, .slice yo yn yc, .int .i64 ax, .slice po pn pc, .slice qo qn qc], .int .i64 c] w fun e w' => e = .returned (.int .i64 1) ∧ Below w.heap.size w w' := by
  have HB := Lib.hid (below1 w (.cells #[.int .i64 kx, .string tx, .bool nx, .slice xo xn xc, .slice yo yn yc, .int .i64 ax, .slice po pn pc, .slice qo qn qc] 29))
  go_enter Tryz.func21, Tryz.ntmps21
  go_wp2_with fail
  go_ret
  exact ⟨rfl, HB.out⟩
set_option maxRecDepth 100000 in
theorem free_nil (kx : Int) (tx : ByteArray) (nx : Bool) (xo : Option Addr) (xn xc : Nat) (yo : Option Addr) (yn yc : Nat) (ax : Int) (po : Option Addr) (pn pc : Nat) (qo : Option Addr) (qn qc : Nat) (w : World) : Calls Tryz.prog 13 #[.pointer none, .agg #[.int .i64 kx, .string tx, .bool nx, .slice xo xn xc, .slice yo yn yc, .int .i64 ax, .slice po pn pc, .slice qo qn qc], .agg #[.int .i64 kx, .string tx, .bool nx, .slice xo xn xc, .slice yo yn yc, .int .i64 ax, .slice po pn pc, .slice qo qn qc]] w fun e w' => e = .returned (.bool false) ∧ Below w.heap.size w w' := by
  have hb1 := below2 w (.cells #[.int .i64 kx, .string tx, .bool nx, .slice xo xn xc, .slice yo yn yc, .int .i64 ax, .slice po pn pc, .slice qo qn qc] 29) (.cells #[.int .i64 kx, .string tx, .bool nx, .slice xo xn xc, .slice yo yn yc, .int .i64 ax, .slice po pn pc, .slice qo qn qc] 29)
  have hn1 := @newsd2 w (.cells #[.int .i64 kx, .string tx, .bool nx, .slice xo xn xc, .slice yo yn yc, .int .i64 ax, .slice po pn pc, .slice qo qn qc] 29) (.cells #[.int .i64 kx, .string tx, .bool nx, .slice xo xn xc, .slice yo yn yc, .int .i64 ax, .slice po pn pc, .slice qo qn qc] 29)
  go_enter Tryz.func13, Tryz.ntmps13
  go_upto_region 1 with fail
  generalize (w.alloc (.cells #[.int .i64 kx, .string tx, .bool nx, .slice xo xn xc, .slice yo yn yc, .int .i64 ax, .slice po pn pc, .slice qo qn qc] 29)).alloc (.cells #[.int .i64 kx, .string tx, .bool nx, .slice xo xn xc, .slice yo yn yc, .int .i64 ax, .slice po pn pc, .slice qo qn qc] 29) = w1 at *
  have HB1 := Lib.hid hb1
  have HN1 := Lib.hid hn1
  clear hb1 hn1
  obtain ⟨c0, c1, c2, c3, c4, c5, c6, c7⟩ := rowS8 HN1.out.1
  go_wp2_with fail
  refine (find_nil kx tx nx xo xn xc yo yn yc ax po pn pc qo qn qc w1).mono ?_
  rintro e w2 ⟨rfl, hb2⟩
  have HB2 := Lib.hid (HB1.out.trans (hb2.mono HB1.out.size))
  have HM2 := Lib.hid ((hb2.block _ (Array.getElem?_eq_some_iff.1 HN1.out.2).1).trans HN1.out.2)
  clear hb2 c0 c1 c2 c3 c4 c5 c6 c7
  obtain ⟨c0, c1, c2, c3, c4, c5, c6, c7⟩ := rowS8 HM2.out
  go_wp2_with fail
  refine (find_nil kx tx nx xo xn xc yo yn yc ax po pn pc qo qn qc w2).mono ?_
  rintro e w3 ⟨rfl, hb3⟩
  have HB3 := Lib.hid (HB2.out.trans (hb3.mono HB2.out.size))
  clear hb3 c0 c1 c2 c3 c4 c5 c6 c7
  go_wp2_with fail
  go_ret
  exact ⟨rfl, HB3.out⟩
end Go.Proofs.YtegengnffdlplaaGreatDoor
